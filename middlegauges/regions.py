"""Regions: the kept readings of a book as a value with operators."""

from middlegauges.books import covered, essence, first_against, learned, parted
from middlegauges.checks import check_book, check_gauges, check_move, check_rule, fits_readings
from middlegauges.errors import InvalidBook, Unkeepable
from middlegauges.keeping import kept
from middlegauges.rules import rule_holds
from middlegauges.spans import span
from middlegauges.views import view_of


class Region:
    """The kept readings of a book, as a value that does not change."""

    def __init__(self, gauges, *rules):
        check_gauges(gauges)
        for rule in rules:
            check_rule(gauges, rule)
        self._gauges = gauges
        self._rules = rules

    @property
    def gauges(self):
        """How many gauges there are."""
        return self._gauges

    @property
    def rules(self):
        """The rules of the book, as a tuple."""
        return self._rules

    @staticmethod
    def of(gauges, book):
        """The region of a book."""
        check_gauges(gauges)
        check_book(gauges, book)
        return Region(gauges, *book)

    @staticmethod
    def seen_in(gauges, seen):
        """The region of the book that was learned from readings."""
        book = learned(gauges, seen)
        return Region(gauges, *book)

    def __len__(self):
        return len(self._rules)

    def __iter__(self):
        # Without this, Python would go through a region by a[0], a[1] and so on.
        raise TypeError("a region is not iterated over")

    def __getitem__(self, at):
        """The span of a gauge."""
        return span(self._gauges, self._rules, at)

    def __contains__(self, x):
        """Whether any value is kept readings."""
        return fits_readings(self._gauges, x) and all([rule_holds(rule, x) for rule in self._rules])

    def __bool__(self):
        """Whether there are any kept readings."""
        return view_of(self._gauges, self._rules) is not None

    def __call__(self, part=None):
        """Kept readings that agree with a part, None if there are none."""
        return kept(self._gauges, self._rules, part)

    def __and__(self, other):
        """The region of the readings of both."""
        check_like(self._gauges, other)
        rules = (*self._rules, *other._rules)
        return Region(self._gauges, *rules)

    def __add__(self, other):
        """The region of the readings to which a move is added."""
        check_move(self._gauges, other)
        rules = [moved_rule(rule, other) for rule in self._rules]
        return Region(self._gauges, *rules)

    def __neg__(self):
        """The region of the readings with all signs turned."""
        rules = [turned_rule(rule) for rule in self._rules]
        return Region(self._gauges, *rules)

    def __le__(self, other):
        """Whether all readings of this region are in the other one."""
        check_like(self._gauges, other)
        return first_against(view_of(self._gauges, self._rules), other._rules) is None

    def __lt__(self, other):
        """Whether all readings of this region are in the other one, but not the other way round."""
        return self <= other and not other <= self

    def __eq__(self, other):
        """Whether any value is a region of as many gauges with the same readings."""
        if not isinstance(other, Region) or self._gauges != other._gauges:
            return False
        return parted(self._gauges, self._rules, other._rules) is None

    def covered(self, open_gauges):
        """The region of what the open gauges show, numbered anew."""
        gauges, book = covered(self._gauges, self._rules, open_gauges)
        return Region(gauges, *book)

    def essence(self):
        """The region of the essence."""
        book = essence(self._gauges, self._rules)
        if book is None:
            raise Unkeepable("no readings keep the rules")
        return Region(self._gauges, *book)


def check_like(gauges, value):
    """InvalidBook unless any value is a region of as many gauges."""
    if not isinstance(value, Region) or value.gauges != gauges:
        raise InvalidBook("this is no region of as many gauges")


def moved_bound(bound, move):
    """The bound that holds of moved readings just where this one holds of the readings."""
    gauge, way, number = bound
    return (gauge, way, number + move[gauge])


def moved_rule(rule, move):
    """The rule that holds of moved readings just where this one holds of the readings."""
    kind = rule[0]
    if kind == "apart":
        _, gauge, other_gauge, number = rule
        return ("apart", gauge, other_gauge, number + move[gauge] - move[other_gauge])
    if kind == "sum":
        _, gauge, other_gauge, way, number = rule
        return ("sum", gauge, other_gauge, way, number + move[gauge] + move[other_gauge])
    bounds = [moved_bound(bound, move) for bound in rule[1:]]
    return (kind, *bounds)


def turned_way(way):
    """The other way."""
    return "most" if way == "least" else "least"


def turned_bound(bound):
    """The bound that holds of turned readings just where this one holds of the readings."""
    gauge, way, number = bound
    return (gauge, turned_way(way), -number)


def turned_rule(rule):
    """The rule that holds of turned readings just where this one holds of the readings."""
    kind = rule[0]
    if kind == "apart":
        _, gauge, other_gauge, number = rule
        return ("apart", other_gauge, gauge, number)
    if kind == "sum":
        _, gauge, other_gauge, way, number = rule
        return ("sum", gauge, other_gauge, turned_way(way), -number)
    bounds = [turned_bound(bound) for bound in rule[1:]]
    return (kind, *bounds)
