"""Bounds, rules, books and readings: what is one, which rules hold, the middle of three readings."""

from middlegauges.checks import check_book, check_bound, check_gauges, check_readings, check_rule
from middlegauges.checks import fits_book, fits_bound, fits_part, fits_readings, fits_rule


def is_bound(gauges, value):
    """Whether any value is a bound."""
    check_gauges(gauges)
    return fits_bound(gauges, value)


def is_rule(gauges, value):
    """Whether any value is a rule."""
    check_gauges(gauges)
    return fits_rule(gauges, value)


def is_book(gauges, value):
    """Whether any value is a book."""
    check_gauges(gauges)
    return fits_book(gauges, value)


def is_readings(gauges, value):
    """Whether any value is readings."""
    check_gauges(gauges)
    return fits_readings(gauges, value)


def is_part(gauges, value):
    """Whether any value is a part of readings."""
    check_gauges(gauges)
    return fits_part(gauges, value)


def contrary(gauges, bound):
    """The bound that holds just where this one does not."""
    check_gauges(gauges)
    check_bound(gauges, bound)
    gauge, way, number = bound
    if way == "least":
        return (gauge, "most", number - 1)
    return (gauge, "least", number + 1)


def holds(gauges, rule, readings):
    """Whether a rule holds of readings."""
    check_gauges(gauges)
    check_rule(gauges, rule)
    check_readings(gauges, readings)
    return rule_holds(rule, readings)


def broken(gauges, book, readings):
    """The ascending list of the indexes of the rules that do not hold of readings."""
    check_gauges(gauges)
    check_book(gauges, book)
    check_readings(gauges, readings)
    return [index for index, rule in enumerate(book) if not rule_holds(rule, readings)]


def middle(gauges, *, first, second, third):
    """The readings with the middle one of the three numbers of each gauge."""
    check_gauges(gauges)
    check_readings(gauges, first)
    check_readings(gauges, second)
    check_readings(gauges, third)
    return tuple([middle_number(first[gauge], second[gauge], third[gauge]) for gauge in range(gauges)])


def middle_number(one, other, last):
    """The middle one of three numbers."""
    low, high = (one, other) if one < other else (other, one)
    if last < low:
        return low
    if last > high:
        return high
    return last


def is_beyond(way, number, mark):
    """Whether a bound with this way and number is sharper than one with this way and the mark."""
    return number > mark if way == "least" else number < mark


def is_sharper(bound, other_bound):
    """Whether a bound is sharper than another one on its gauge with its way."""
    _, way, number = bound
    return is_beyond(way, number, other_bound[2])


def opposes(bound, other_bound):
    """Whether two bounds oppose each other."""
    gauge, way, number = bound
    other_gauge, other_way, other_number = other_bound
    return gauge == other_gauge and way != other_way and is_beyond(way, number, other_number)


def satisfies(shown, way, number):
    """Whether a number is at least, or at most, another one."""
    return not is_beyond(way, number, shown)


def bound_holds(bound, readings):
    """Whether a bound holds of readings."""
    gauge, way, number = bound
    return satisfies(readings[gauge], way, number)


def rule_holds(rule, readings):
    """Whether a rule holds of readings, both taken as checked."""
    kind = rule[0]
    if kind == "bound":
        return bound_holds(rule[1], readings)
    if kind == "apart":
        _, gauge, other_gauge, number = rule
        return readings[gauge] <= readings[other_gauge] + number
    if kind == "sum":
        _, gauge, other_gauge, way, number = rule
        return satisfies(readings[gauge] + readings[other_gauge], way, number)
    _, one, other = rule
    return bound_holds(one, readings) or bound_holds(other, readings)
