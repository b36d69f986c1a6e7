"""Flows: what comes from a bound in a book without rings, for all numbers of the bound at once.

By apart and sum rules a level is handed on with a gain. By either rules, from a certain level on, another one comes
that stays the same however high the first one is. So what comes from a level on a side is told by the gains from
this side and by stages: a pair (levels, rows) with rows[0] for what comes from any level, and rows[k + 1] for what
comes beside it from levels[k] on. The levels ascend, and each row has all that the rows ahead of it have.
"""

from middlegauges.sides import across, aim_of, contrary_aim, empty_row, higher, higher_row, level_of, lifted, lower
from middlegauges.sides import own_gains, row_with, side_of


class Flow:
    """What comes from each level on each side: lists with the gains, the stages and the limit of each side.

    The limit of a side is the least level on it that clashes, None if none does. (If the bounds that are rules clash
    by themselves, each level does; then the limits are some levels by which split_of tells that.)
    """

    def __init__(self, gains, stages, limits):
        self.gains = gains
        self.stages = stages
        self.limits = limits


def flow_of(gauges, book):
    """The flow of a book without rings."""
    gains = gains_of(gauges, book)
    direct = direct_stages(gauges, book)
    start = all_to_come(gains, direct, bound_row(gauges, book))
    closed = [closed_entries(gains, direct, stages) for stages in direct]
    stages = [side_stages(row, start, closed) for row in gains]
    limits = [first_clash(side, gains[side], stages[side]) for side in range(2 * gauges)]
    return Flow(gains, stages, limits)


def slope_of(rule):
    """An apart or sum rule as (side, other_side, gain): the level on other_side is that on side plus gain or more."""
    if rule[0] == "apart":
        _, gauge, other_gauge, number = rule
        return (side_of(gauge, "least"), side_of(other_gauge, "least"), -number)
    _, gauge, other_gauge, way, number = rule
    other_side = side_of(other_gauge, way)
    return (across(side_of(gauge, way)), other_side, level_of(other_side, number))


def gains_of(gauges, book):
    """By two sides the most that is gained from the one to the other by any row of steps, None if none leads there."""
    sides = range(2 * gauges)
    gains = [list(row) for row in own_gains(gauges)]
    for rule in book:
        if rule[0] in ("apart", "sum"):
            side, other_side, gain = slope_of(rule)
            gains[side][other_side] = higher(gains[side][other_side], gain)
            # The contrary bounds are forced the other way round.
            turned, other_turned = across(other_side), across(side)
            gains[turned][other_turned] = higher(gains[turned][other_turned], gain)
    for via in sides:
        for side in sides:
            if gains[side][via] is not None:
                for other_side in sides:
                    gain = lifted(gains[side][via], gains[via][other_side])
                    gains[side][other_side] = higher(gains[side][other_side], gain)
    return gains


def direct_stages(gauges, book):
    """For each side the stages of what the either rules force at once."""
    entries = [[] for _ in range(2 * gauges)]
    for rule in book:
        if rule[0] == "either":
            for bound, other_bound in ((rule[1], rule[2]), (rule[2], rule[1])):
                side, level = contrary_aim(bound)
                other_side, other_level = aim_of(other_bound)
                entries[side].append((level, row_with(gauges, other_side, other_level)))
    return [stages_of(empty_row(gauges), rows) for rows in entries]


def bound_row(gauges, book):
    """The row of the bounds that are rules."""
    row = list(empty_row(gauges))
    for rule in book:
        if rule[0] == "bound":
            side, level = aim_of(rule[1])
            row[side] = higher(row[side], level)
    return row


def stages_of(start, entries):
    """The stages from pairs of a level and a row of what comes from there on; start comes from any level."""
    by_level = {}
    for level, row in entries:
        by_level[level] = higher_row(by_level[level], row) if level in by_level else row
    levels = []
    rows = [start]
    for level in sorted([int(level) for level in by_level]):
        row = higher_row(rows[-1], by_level[level])
        if row != rows[-1]:
            levels.append(level)
            rows.append(row)
    return (levels, rows)


def row_at(stages, level):
    """The row of the stages for a level."""
    levels, rows = stages
    low = 0
    high = len(levels)
    while low < high:
        mid = (low + high) // 2
        if levels[mid] <= level:
            low = mid + 1
        else:
            high = mid
    return rows[low]


def handed_on(gains, row):
    """The row of all that comes from a row by apart and sum rules."""
    found = row
    for level, line in zip(row, gains):
        if level is not None:
            found = higher_row(found, [lifted(level, gain) for gain in line])
    return found


def all_to_come(gains, direct, row):
    """The row of all that comes from a row."""
    known = None
    row = handed_on(gains, row)
    while row != known:
        known = row
        for level, stages in zip(known, direct):
            if level is not None:
                row = higher_row(row, row_at(stages, level))
        row = handed_on(gains, row)
    return known


def closed_entries(gains, direct, stages):
    """The pairs of a level of the stages and the row of all that comes from there on."""
    levels, rows = stages
    return [(level, all_to_come(gains, direct, row)) for level, row in zip(levels, rows[1:])]


def side_stages(gains, start, closed):
    """The stages of the side with these gains: a stage of another side begins where the level handed on reaches it."""
    entries = []
    for gain, rows in zip(gains, closed):
        if gain is not None:
            entries.extend([(level - gain, row) for level, row in rows])
    return stages_of(start, entries)


def first_clash(side, gains, stages):
    """The least level that clashes on a side with these gains and stages, None if none does.

    What opposes something that comes from a level forces the contrary of what this came from, step by step back. So
    a level clashes just if its own contrary comes, or a sharper bound across.
    """
    levels, rows = stages
    for index, row in enumerate(rows):
        level = clash_within(gains[across(side)], row[across(side)])
        if level is not None and index > 0:
            level = higher(level, levels[index - 1])
        if level is not None and (index == len(levels) or level < levels[index]):
            return level
    return None


def clash_within(gain, mark):
    """The least level that opposes a mark across, or itself handed on across with a gain; None if none does."""
    by_mark = None if mark is None else 1 - mark
    # A half is rounded here: twice the level and the gain are more than 0.
    by_gain = None if gain is None else -gain // 2 + 1
    return lower(by_mark, by_gain)


def split_of(flow):
    """A bound with "least" that clashes, as its contrary does, as (gauge, number); None if there is none."""
    for gauge in range(len(flow.limits) // 2):
        level, other_level = flow.limits[2 * gauge], flow.limits[2 * gauge + 1]
        if level is not None and other_level is not None and level + other_level <= 1:
            return (gauge, level)
    return None
