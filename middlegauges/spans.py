"""Spans: which numbers a gauge can show in a keepable book."""

from middlegauges.checks import check_book, check_gauge, check_gauges, check_number
from middlegauges.sides import number_at
from middlegauges.views import keepable_view


def span(gauges, book, gauge):
    """What a gauge can show as (least, greatest, gaps), None where there is no end."""
    check_gauges(gauges)
    check_book(gauges, book)
    check_gauge(gauges, gauge)
    view = keepable_view(gauges, book)
    least, greatest = 2 * gauge, 2 * gauge + 1
    return (number_at(least, view.ends[least]), number_at(greatest, view.ends[greatest]), tuple(view.holes(gauge)))


def shows(gauges, book, gauge, number):
    """Whether a gauge can show a number."""
    check_gauges(gauges)
    check_book(gauges, book)
    check_gauge(gauges, gauge)
    check_number(number)
    return keepable_view(gauges, book).numbers_around(gauge, number) == (number, number)


def nearest(gauges, book, gauge, number):
    """The greatest number up to this one and the least one from it on that a gauge can show, None for none."""
    check_gauges(gauges)
    check_book(gauges, book)
    check_gauge(gauges, gauge)
    check_number(number)
    return keepable_view(gauges, book).numbers_around(gauge, number)
