"""Sides and levels: bounds as pairs of integers, so that a greater level always means a sharper bound.

The side of a bound is 2 * gauge for "least" and 2 * gauge + 1 for "most". Its level is its number, with the sign
turned for "most". What a gauge shows has a level on both of its sides, too: a bound holds if this is not less than
its own one. None stands for no level, which is less than any. A row is a list with a level or None for each side.
"""


def side_of(gauge, way):
    """The side of a gauge for a way."""
    return 2 * gauge if way == "least" else 2 * gauge + 1


def across(side):
    """The other side of the same gauge."""
    return side ^ 1


def level_of(side, number):
    """The level on a side that stands for a number."""
    return number if side == 2 * (side // 2) else -number


def number_at(side, level):
    """The number that a level on a side stands for, None for none."""
    if level is None:
        return None
    return level_of(side, level)


def aim_of(bound):
    """A bound as the pair (side, level)."""
    gauge, way, number = bound
    side = side_of(gauge, way)
    return (side, level_of(side, number))


def contrary_aim(bound):
    """The contrary of a bound as the pair (side, level)."""
    side, level = aim_of(bound)
    return (across(side), 1 - level)


def bound_at(side, level):
    """The bound of a side and a level."""
    gauge = side // 2
    return (gauge, "least" if side == 2 * gauge else "most", level_of(side, level))


def higher(one, other):
    """The higher one of two levels."""
    if one is None:
        return other
    if other is None or one > other:
        return one
    return other


def lower(one, other):
    """The lower one of two levels; here None stands for one that is greater than any."""
    if one is None:
        return other
    if other is None or one < other:
        return one
    return other


def lifted(level, gain):
    """A level with a gain added, None if there is no level or no gain."""
    if level is None or gain is None:
        return None
    return level + gain


def empty_row(gauges):
    """The row without levels."""
    return [None] * (2 * gauges)


def row_with(gauges, side, level):
    """The row with one level."""
    return [level if at == side else None for at in range(2 * gauges)]


def own_gains(gauges):
    """By two sides what is gained from the one to the other if nothing is handed on but from each side to itself."""
    sides = range(2 * gauges)
    return [[0 if target == start else None for target in sides] for start in sides]


def higher_row(row, other_row):
    """The row of the higher levels of two rows."""
    return [higher(one, other) for one, other in zip(row, other_row)]
