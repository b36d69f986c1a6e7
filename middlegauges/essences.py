"""Essences: the book of the ends, gaps, extremes and corners of a view, and the view of readings that were seen."""

from middlegauges.sides import across, bound_at, lower, number_at, own_gains
from middlegauges.views import View

# Of two gauges the sides on which a slope or corners are told, each as 0 for "least" and 1 for "most".
WAY_PAIRS = ((0, 0), (0, 1), (1, 0), (1, 1))

# The book of a panel of which no readings are kept.
NO_READINGS = (("bound", (0, "least", 1)), ("bound", (0, "most", 0)))


def essence_of(view):
    """The book of a view as [14] tells it."""
    gauges = range(len(view.ends) // 2)
    rules = []
    for gauge in gauges:
        rules.extend(rules_on_one(view, gauge))
    for gauge in gauges:
        for other_gauge in range(gauge + 1, len(gauges)):
            rules.extend(slope_rules(view, gauge, other_gauge))
            rules.extend(corner_rules(view, gauge, other_gauge))
    return tuple(rules)


def rules_on_one(view, gauge):
    """The bound rules of the ends of a gauge and the either rules of its gaps."""
    sides = (2 * gauge, 2 * gauge + 1)
    rules = [("bound", bound_at(side, view.ends[side])) for side in sides if view.ends[side] is not None]
    for before, behind in view.holes(gauge):
        rules.append(("either", (gauge, "most", before), (gauge, "least", behind)))
    return rules


def slope_rules(view, gauge, other_gauge):
    """The apart and sum rules of the extremes of two gauges."""
    least, greatest, least_sum, greatest_sum = extremes_of(view, gauge, other_gauge)
    rules = []
    if least is not None:
        rules.append(("apart", gauge, other_gauge, -least))
    if greatest is not None:
        rules.append(("apart", other_gauge, gauge, greatest))
    if least_sum is not None:
        rules.append(("sum", gauge, other_gauge, "least", least_sum))
    if greatest_sum is not None:
        rules.append(("sum", gauge, other_gauge, "most", greatest_sum))
    return rules


def extremes_of(view, gauge, other_gauge):
    """The least and the greatest difference and the least and the greatest sum, None where there is none."""
    least_side, most_side = 2 * gauge, 2 * gauge + 1
    on_least, on_most = 2 * other_gauge, 2 * other_gauge + 1
    return (view.slope(least_side, on_least), number_at(on_most, view.slope(most_side, on_most)),
            view.slope(most_side, on_least), number_at(on_most, view.slope(least_side, on_most)))


def corner_rules(view, gauge, other_gauge):
    """The either rules of the corners of two gauges."""
    rules = []
    for turn, other_turn in WAY_PAIRS:
        side, other_side = 2 * gauge + turn, 2 * other_gauge + other_turn
        for level, other_level in view.turns(side, other_side):
            rules.append(("either", bound_at(across(side), 1 - level), bound_at(other_side, other_level)))
    return rules


def seen_view(gauges, seen):
    """The view of the least readings that have the seen ones and the middle of each three of them.

    Each rule that holds of all seen readings holds of these, so whatever a view has can be told by the seen ones.
    """
    rows = [[level for number in readings for level in (number, -number)] for readings in seen]
    sides = range(2 * gauges)
    return View(own_gains(gauges), [seen_stages(rows, side) for side in sides], lowest_row(rows))


def seen_stages(rows, side):
    """The stages of a side: above each seen level but the highest one the lowest levels of the rows that remain."""
    levels = sorted(set([int(row[side]) for row in rows]))
    found = [lowest_row([row for row in rows if row[side] > level]) for level in levels[:-1]]
    return ([level + 1 for level in levels[:-1]], [lowest_row(rows), *found])


def lowest_row(rows):
    """The row of the lowest levels of one or more rows."""
    found = rows[0]
    for row in rows:
        found = [lower(one, other) for one, other in zip(found, row)]
    return found
