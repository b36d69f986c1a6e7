"""Keeping: whether a book can be kept, by which readings, and what is to blame if some bounds cannot be."""

from middlegauges.checks import check_book, check_bounds, check_gauges, check_part
from middlegauges.flows import flow_of, split_of
from middlegauges.following import clash_steps, find_ring
from middlegauges.sides import aim_of
from middlegauges.views import view_of


def keepable(gauges, book):
    """Whether some readings keep a book."""
    check_gauges(gauges)
    check_book(gauges, book)
    return view_of(gauges, book) is not None


def paper(gauges, book):
    """None if a book is keepable; else ("ring", ring) or ("split", gauge, number, low, high), which shows it is not."""
    check_gauges(gauges)
    check_book(gauges, book)
    found = find_ring(gauges, book)
    if found is not None:
        return ("ring", found)
    split = split_of(flow_of(gauges, book))
    if split is None:
        return None
    gauge, number = split
    low = clash_steps(gauges, book, (gauge, "most", number - 1))
    high = clash_steps(gauges, book, (gauge, "least", number))
    return ("split", gauge, number, low, high)


def kept(gauges, book, part=None):
    """Readings that keep a book and agree with a part, None if there are none."""
    check_gauges(gauges)
    check_book(gauges, book)
    if part is not None:
        check_part(gauges, part)
    view = view_of(gauges, book)
    if view is None:
        return None
    aims = [] if part is None else part_aims(part)
    if view.culprits(aims) is not None:
        return None
    return view.filled(aims)


def can_be(gauges, book, bounds):
    """Whether some readings keep a book of which all of the bounds hold."""
    check_gauges(gauges)
    check_book(gauges, book)
    check_bounds(gauges, bounds)
    return culprits_of(gauges, book, bounds) is None


def blame(gauges, book, bounds):
    """None if bounds can be; else () if the book is not keepable, else the indexes of one or two that cannot be."""
    check_gauges(gauges)
    check_book(gauges, book)
    check_bounds(gauges, bounds)
    return culprits_of(gauges, book, bounds)


def culprits_of(gauges, book, bounds):
    """As blame, of arguments that are taken as checked."""
    view = view_of(gauges, book)
    if view is None:
        return ()
    return view.culprits([aim_of(bound) for bound in bounds])


def part_aims(part):
    """The aims of a part: what it has, shown exactly."""
    aims = []
    for gauge, number in enumerate(part):
        if number is not None:
            aims.extend([(2 * gauge, number), (2 * gauge + 1, -number)])
    return aims
