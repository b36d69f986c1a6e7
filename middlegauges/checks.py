"""What values count as integers, gauges, bounds, rules, books, readings and parts, and the errors for others.

The functions fits_.. take gauges as checked and any value; the functions check_.. raise.
"""

from middlegauges.errors import InvalidBook, InvalidBound, InvalidChoice, InvalidCount, InvalidGauge, InvalidMove
from middlegauges.errors import InvalidNumber, InvalidReadings, InvalidRule, InvalidWay

MOST_GAUGES = 5

WAYS = ("least", "most")


def is_integer(value):
    """Whether any value is an integer; True and False are none."""
    return isinstance(value, int) and not isinstance(value, bool)


def is_tuple(value):
    """Whether any value is a tuple, and of no kind derived from it."""
    return type(value) == tuple


def fits_gauge(gauges, value):
    """Whether any value is a gauge."""
    return is_integer(value) and 0 <= value < gauges


def fits_way(value):
    """Whether any value is a way."""
    return value in WAYS


def fits_bound(gauges, value):
    """Whether any value is a bound."""
    if not is_tuple(value) or len(value) != 3:
        return False
    gauge, way, number = value
    return fits_gauge(gauges, gauge) and fits_way(way) and is_integer(number)


def fits_apart(gauges, value):
    """Whether a tuple with the word "apart" ahead is a rule."""
    if len(value) != 4:
        return False
    _, gauge, other_gauge, number = value
    both = fits_gauge(gauges, gauge) and fits_gauge(gauges, other_gauge)
    return both and gauge != other_gauge and is_integer(number)


def fits_sum(gauges, value):
    """Whether a tuple with the word "sum" ahead is a rule."""
    if len(value) != 5:
        return False
    _, gauge, other_gauge, way, number = value
    both = fits_gauge(gauges, gauge) and fits_gauge(gauges, other_gauge)
    return both and gauge < other_gauge and fits_way(way) and is_integer(number)


def fits_rule(gauges, value):
    """Whether any value is a rule."""
    if not is_tuple(value) or len(value) == 0:
        return False
    kind = value[0]
    if kind == "bound":
        return len(value) == 2 and fits_bound(gauges, value[1])
    if kind == "apart":
        return fits_apart(gauges, value)
    if kind == "sum":
        return fits_sum(gauges, value)
    if kind == "either":
        return len(value) == 3 and fits_bound(gauges, value[1]) and fits_bound(gauges, value[2])
    return False


def fits_bounds(gauges, value):
    """Whether any value is a tuple of bounds."""
    return is_tuple(value) and all([fits_bound(gauges, bound) for bound in value])


def fits_book(gauges, value):
    """Whether any value is a book."""
    return is_tuple(value) and all([fits_rule(gauges, rule) for rule in value])


def fits_readings(gauges, value):
    """Whether any value is readings."""
    return is_tuple(value) and len(value) == gauges and all([is_integer(shown) for shown in value])


def fits_part(gauges, value):
    """Whether any value is a part of readings."""
    if not is_tuple(value) or len(value) != gauges:
        return False
    return all([shown is None or is_integer(shown) for shown in value])


def fits_open_gauges(gauges, value):
    """Whether any value is an ascending tuple of one or more gauges, no gauge twice."""
    if not is_tuple(value) or len(value) == 0 or not all([fits_gauge(gauges, gauge) for gauge in value]):
        return False
    return all([gauge < other_gauge for gauge, other_gauge in zip(value, value[1:])])


def fits_seen(gauges, value):
    """Whether any value is a list of one or more readings."""
    return type(value) == list and len(value) > 0 and all([fits_readings(gauges, readings) for readings in value])


def check_gauges(gauges):
    """InvalidCount unless gauges is an integer from 1 to 5."""
    if not is_integer(gauges) or not 1 <= gauges <= MOST_GAUGES:
        raise InvalidCount("gauges is no integer from 1 to 5")


def check_gauge(gauges, gauge):
    """InvalidGauge unless gauge is one."""
    if not fits_gauge(gauges, gauge):
        raise InvalidGauge("the gauge is none of these")


def check_other_gauge(gauges, gauge, other_gauge):
    """InvalidGauge unless other_gauge is a gauge, and another one than gauge."""
    if not fits_gauge(gauges, other_gauge) or other_gauge == gauge:
        raise InvalidGauge("the other gauge is none of these, or the same one")


def check_way(way):
    """InvalidWay unless way is one."""
    if not fits_way(way):
        raise InvalidWay("the way is neither least nor most")


def check_number(number):
    """InvalidNumber unless number is an integer."""
    if not is_integer(number):
        raise InvalidNumber("the number is no integer")


def check_bound(gauges, bound):
    """InvalidBound unless bound is one."""
    if not fits_bound(gauges, bound):
        raise InvalidBound("the bound is none of these gauges")


def check_bounds(gauges, bounds):
    """InvalidBound unless bounds is a tuple of bounds."""
    if not fits_bounds(gauges, bounds):
        raise InvalidBound("bounds is no tuple of bounds of these gauges")


def check_rule(gauges, rule):
    """InvalidRule unless rule is one."""
    if not fits_rule(gauges, rule):
        raise InvalidRule("the rule is none of these gauges")


def check_book(gauges, book):
    """InvalidBook unless book is a tuple of rules."""
    if not fits_book(gauges, book):
        raise InvalidBook("the book is no tuple of rules of these gauges")


def check_readings(gauges, readings):
    """InvalidReadings unless readings are some."""
    if not fits_readings(gauges, readings):
        raise InvalidReadings("the readings are no tuple with an integer for each gauge")


def check_part(gauges, part):
    """InvalidReadings unless part is a part of readings."""
    if not fits_part(gauges, part):
        raise InvalidReadings("the part is no tuple with an integer or None for each gauge")


def check_open_gauges(gauges, open_gauges):
    """InvalidChoice unless open_gauges is an ascending tuple of gauges."""
    if not fits_open_gauges(gauges, open_gauges):
        raise InvalidChoice("the open gauges are no ascending tuple of gauges")


def check_seen(gauges, seen):
    """InvalidChoice unless seen is a list of readings."""
    if not fits_seen(gauges, seen):
        raise InvalidChoice("what was seen is no list of one or more readings")


def check_move(gauges, move):
    """InvalidMove unless move is a tuple with an integer for each gauge."""
    if not fits_readings(gauges, move):
        raise InvalidMove("the move is no tuple with an integer for each gauge")
