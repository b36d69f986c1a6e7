"""Books: which rules follow from a book, which books are alike, and what a book says of some gauges."""

from middlegauges.checks import check_book, check_gauges, check_open_gauges, check_rule, check_seen
from middlegauges.essences import NO_READINGS, essence_of, seen_view
from middlegauges.views import view_of


def follows(gauges, book, rule):
    """Whether a rule holds of all readings that keep a book."""
    check_gauges(gauges)
    check_book(gauges, book)
    check_rule(gauges, rule)
    return first_against(view_of(gauges, book), (rule,)) is None


def counter(gauges, book, rule):
    """Readings that keep a book and of which a rule does not hold, None if there are none."""
    check_gauges(gauges)
    check_book(gauges, book)
    check_rule(gauges, rule)
    return first_against(view_of(gauges, book), (rule,))


def alike(gauges, one, other):
    """Whether two books are kept by the same readings."""
    check_gauges(gauges)
    check_book(gauges, one)
    check_book(gauges, other)
    return parted(gauges, one, other) is None


def parting(gauges, one, other):
    """Readings that keep just one of two books, None if there are none."""
    check_gauges(gauges)
    check_book(gauges, one)
    check_book(gauges, other)
    return parted(gauges, one, other)


def needless(gauges, book):
    """The ascending list of the indexes of the rules that follow from the other rules of the book."""
    check_gauges(gauges)
    check_book(gauges, book)
    found = []
    for index, rule in enumerate(book):
        others = book[:index] + book[index + 1:]
        if first_against(view_of(gauges, others), (rule,)) is None:
            found.append(index)
    return found


def essence(gauges, book):
    """The book of the ends, gaps, extremes and corners of a book, None if it is not keepable."""
    check_gauges(gauges)
    check_book(gauges, book)
    view = view_of(gauges, book)
    return None if view is None else essence_of(view)


def covered(gauges, book, open_gauges):
    """What a book says of the gauges that stay open, numbered anew, as (gauges, book)."""
    check_gauges(gauges)
    check_book(gauges, book)
    check_open_gauges(gauges, open_gauges)
    view = view_of(gauges, book)
    if view is None:
        return (len(open_gauges), NO_READINGS)
    return (len(open_gauges), essence_of(view.narrowed(open_gauges)))


def learned(gauges, seen):
    """The book of all rules that hold of all seen readings."""
    check_gauges(gauges)
    check_seen(gauges, seen)
    return essence_of(seen_view(gauges, seen))


def parted(gauges, one, other):
    """As parting, of arguments that are taken as checked."""
    view, other_view = view_of(gauges, one), view_of(gauges, other)
    found = first_against(view, other)
    return first_against(other_view, one) if found is None else found


def first_against(view, rules):
    """Readings of a view, which may be None for none, of which one of the rules does not hold; None for none."""
    if view is None:
        return None
    for rule in rules:
        aims = view.against(rule)
        if aims is not None:
            return view.filled(aims)
    return None
