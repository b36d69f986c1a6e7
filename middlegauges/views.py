"""Views: what the gauges can show by a keepable book, in closed form.

A view joins the ends to what comes from a bound, for by F5 the sharper one of both is the sharpest bound that holds.
"""

from middlegauges.errors import Unkeepable
from middlegauges.flows import flow_of, row_at, slope_of, split_of
from middlegauges.following import find_ring
from middlegauges.sides import across, contrary_aim, higher, higher_row, lifted, lower


class View:
    """The kept readings of a keepable book, or other readings that have the middle of each three of them.

    gains and stages are those of a flow, but each row of the stages has the ends, too. ends is the row of the highest
    levels that hold of all these readings. An aim is a pair (side, level) and stands for a bound.
    """

    def __init__(self, gains, stages, ends):
        self.gains = gains
        self.stages = stages
        self.ends = ends

    def fits(self, side, level):
        """Whether an aim can be."""
        end = self.ends[across(side)]
        return end is None or level + end <= 0

    def reach(self, side, level, other_side):
        """The highest level on another side that holds of all readings with an aim that can be, None if none does."""
        gained = lifted(level, self.gains[side][other_side])
        return higher(gained, row_at(self.stages[side], level)[other_side])

    def fit_together(self, aim, other_aim):
        """Whether two aims can be together, each of which can be by itself."""
        side, level = aim
        other_side, other_level = other_aim
        reached = self.reach(side, level, across(other_side))
        return reached is None or reached + other_level <= 0

    def culprits(self, aims):
        """The least tuple of the index of an aim that cannot be, or of two that cannot together; None if all can."""
        for index, (side, level) in enumerate(aims):
            if not self.fits(side, level):
                return (index,)
        for index, aim in enumerate(aims):
            for other_index in range(index + 1, len(aims)):
                if not self.fit_together(aim, aims[other_index]):
                    return (index, other_index)
        return None

    def holes(self, gauge):
        """The ascending list of the gaps of a gauge."""
        side = 2 * gauge
        levels, rows = self.stages[side]
        found = []
        for level, row in zip(levels, rows[1:]):
            reached = row[side]
            # Below the least number its end is reached, above the greatest one no bound can be: neither is a gap.
            below = self.ends[side] is not None and level < self.ends[side]
            if below or reached is None or reached <= level or not self.fits(side, level):
                continue
            # Later stages within a gap reach no further than its first one, from which they come, too.
            if not found or found[-1][1] != reached:
                found.append((level - 1, reached))
        return found

    def numbers_around(self, gauge, number):
        """The greatest number up to this one and the least one from it on that a gauge can show, None for none."""
        low, high = self.ends[2 * gauge], self.ends[2 * gauge + 1]
        if low is not None and number < low:
            return (None, low)
        if high is not None and number > -high:
            return (-high, None)
        for before, behind in self.holes(gauge):
            if before < number < behind:
                return (before, behind)
        return (number, number)

    def filled(self, aims):
        """Readings with aims that can be together."""
        shown = []
        for gauge in range(len(self.ends) // 2):
            number = self.number_beside(gauge, aims)
            aims = [*aims, (2 * gauge, number), (2 * gauge + 1, -number)]
            shown.append(number)
        return tuple(shown)

    def number_beside(self, gauge, aims):
        """What a gauge can show with aims that can be together: its least number, else its greatest, else one by 0."""
        low, high = self.ends[2 * gauge], self.ends[2 * gauge + 1]
        for side, level in aims:
            low = higher(low, self.reach(side, level, 2 * gauge))
            high = higher(high, self.reach(side, level, 2 * gauge + 1))
        if low is not None:
            return low
        if high is not None:
            return -high
        below, _ = self.numbers_around(gauge, 0)
        return below

    def last_levels(self, side):
        """The last level of each stage, of those that can be, but for the last stage of a side without an end.

        Within a stage what is reached stays or gains as the level does, so it is the least above the level here.
        """
        levels, _ = self.stages[side]
        found = [level - 1 for level in levels if self.fits(side, level - 1)]
        end = self.ends[across(side)]
        return found if end is None else [*found, -end]

    def slope(self, side, other_side):
        """The most that the level on other_side is always at least above that on side, None if there is no such."""
        if self.ends[across(side)] is None:
            # However far behind the stages stay, what is handed on keeps pace.
            return self.gains[side][other_side]
        found = None
        for level in self.last_levels(side):
            reached = self.reach(side, level, other_side)
            if reached is None:
                return None
            found = lower(found, reached - level)
        return found

    def level_short_of(self, side, other_side, gain):
        """A level beside which other_side need not show that level plus the gain, None if there is none."""
        for level in self.last_levels(side) + self.far_levels(side, other_side, gain):
            reached = self.reach(side, level, other_side)
            if reached is None or reached < level + gain:
                return level
        return None

    def far_levels(self, side, other_side, gain):
        """If the side has no end, one level in a list: so high that no stage reaches it plus the gain."""
        if self.ends[across(side)] is not None:
            return []
        levels, rows = self.stages[side]
        last = levels[-1] if levels else 0
        top = rows[-1][other_side]
        return [last if top is None else higher(last, top - gain + 1)]

    def turns(self, side, other_side):
        """The ascending list of the corners as pairs of levels."""
        slope = self.slope(side, other_side)
        levels, _ = self.stages[side]
        found = []
        for level in levels:
            if not self.fits(side, level):
                break
            reached = self.reach(side, level, other_side)
            if reached is None or not is_above(reached, lifted(level, slope)):
                continue
            if is_above(reached, self.reach(side, level - 1, other_side)):
                found.append((level, reached))
        return found

    def against(self, rule):
        """Aims in a list that can be together, and with which a rule does not hold; None if there are none."""
        if rule[0] in ("bound", "either"):
            aims = [contrary_aim(bound) for bound in rule[1:]]
            return aims if self.culprits(aims) is None else None
        side, other_side, gain = slope_of(rule)
        level = self.level_short_of(side, other_side, gain)
        if level is None:
            return None
        return [(side, level), (across(other_side), 1 - level - gain)]

    def narrowed(self, open_gauges):
        """The view of some of the gauges alone, numbered anew."""
        sides = [side for gauge in open_gauges for side in (2 * gauge, 2 * gauge + 1)]
        gains = [items_at(self.gains[side], sides) for side in sides]
        stages = []
        for side in sides:
            levels, rows = self.stages[side]
            stages.append((levels, [items_at(row, sides) for row in rows]))
        return View(gains, stages, items_at(self.ends, sides))


def is_above(level, mark):
    """Whether a level is above another one, or there is no other one."""
    return mark is None or level > mark


def items_at(row, sides):
    """The items of a row at some sides."""
    return [row[side] for side in sides]


def view_of(gauges, book):
    """The view of a book, None if it is not keepable."""
    if find_ring(gauges, book) is not None:
        return None
    flow = flow_of(gauges, book)
    if split_of(flow) is not None:
        return None
    ends = ends_of(flow.limits)
    stages = []
    for levels, rows in flow.stages:
        stages.append((levels, [higher_row(row, ends) for row in rows]))
    return View(flow.gains, stages, ends)


def keepable_view(gauges, book):
    """The view of a book; Unkeepable if it is not keepable."""
    view = view_of(gauges, book)
    if view is None:
        raise Unkeepable("no readings keep the book")
    return view


def ends_of(limits):
    """The row of the ends from the limits: what holds of all is the contrary of the bluntest bound that clashes."""
    contraries = [limits[across(side)] for side in range(len(limits))]
    return [None if limit is None else 1 - limit for limit in contraries]
