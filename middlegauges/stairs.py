"""Stairs: how far a bound on one gauge bounds another one in a keepable book."""

from middlegauges.checks import check_book, check_bound, check_gauge, check_gauges, check_other_gauge, check_way
from middlegauges.errors import Unkeepable
from middlegauges.essences import extremes_of
from middlegauges.sides import aim_of, number_at, side_of
from middlegauges.views import keepable_view


def extremes(gauges, book, gauge, other_gauge):
    """The least and the greatest of other_gauge less gauge, and of both together, None where there is none."""
    check_gauges(gauges)
    check_book(gauges, book)
    check_gauge(gauges, gauge)
    check_other_gauge(gauges, gauge, other_gauge)
    return extremes_of(keepable_view(gauges, book), gauge, other_gauge)


def stair(gauges, book, bound, other_gauge, other_way):
    """The number of the sharpest bound on other_gauge that holds beside a bound, None if there is none."""
    check_gauges(gauges)
    check_book(gauges, book)
    check_bound(gauges, bound)
    check_other_gauge(gauges, bound[0], other_gauge)
    check_way(other_way)
    view = keepable_view(gauges, book)
    side, level = aim_of(bound)
    if not view.fits(side, level):
        raise Unkeepable("no kept readings have this bound")
    other_side = side_of(other_gauge, other_way)
    return number_at(other_side, view.reach(side, level, other_side))


def corners(gauges, book, gauge, way, other_gauge, other_way):
    """The list of the pairs (number, other_number) at which the stair neither stays nor keeps pace, bluntest first."""
    check_gauges(gauges)
    check_book(gauges, book)
    check_gauge(gauges, gauge)
    check_way(way)
    check_other_gauge(gauges, gauge, other_gauge)
    check_way(other_way)
    side, other_side = side_of(gauge, way), side_of(other_gauge, other_way)
    turns = keepable_view(gauges, book).turns(side, other_side)
    return [(number_at(side, level), number_at(other_side, other_level)) for level, other_level in turns]
