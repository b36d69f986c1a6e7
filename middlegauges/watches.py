"""Watches: bounds that are told one after the other about readings that keep a book."""

from middlegauges.books import follows
from middlegauges.checks import check_book, check_gauge, check_gauges, check_number, check_way
from middlegauges.errors import Contradicted, NoBlock, NothingToUndo
from middlegauges.keeping import blame, kept
from middlegauges.spans import span


class Watch:
    """A book and the bounds that were told about readings that keep it.

    A deed is a tuple of the one or two bounds that were added at once. Each block keeps how many deeds there were at
    its beginning; as undo does not reach behind that, these are all that is needed to put the watch back.
    """

    def __init__(self, gauges, book):
        check_gauges(gauges)
        check_book(gauges, book)
        self._gauges = gauges
        self._book = book
        self._deeds = []
        self._beginnings = []

    @property
    def gauges(self):
        """How many gauges there are."""
        return self._gauges

    @property
    def book(self):
        """The book that the readings keep."""
        return self._book

    @property
    def told(self):
        """The tuple of the bounds that stand, in the sequence in which they were told."""
        return tuple([bound for deed in self._deeds for bound in deed])

    def __len__(self):
        return len(self.told)

    def tell(self, gauge, way, number):
        """Adds a bound if it is news, and returns whether it was."""
        news = self._news_of(bounds_to_tell(self._gauges, gauge, way, number))
        return self._added(news) == 1

    def show(self, gauge, number):
        """Tells that a gauge shows a number, and returns how many of the two bounds were news."""
        news = self._news_of(bounds_to_show(self._gauges, gauge, number))
        return self._added(news)

    def undo(self):
        """Takes back the last deed, within a block only one that was done there; returns how many bounds it had."""
        beginning = self._beginnings[-1] if self._beginnings else 0
        if len(self._deeds) == beginning:
            raise NothingToUndo("nothing was done that could be taken back")
        return len(self._deeds.pop())

    def blame(self):
        """None if the told bounds can be; else () if the book is not keepable, else who is to blame."""
        return blame(self._gauges, self._book, self.told)

    def left(self, gauge):
        """The span of a gauge for the readings that are left."""
        return span(self._gauges, self._rules_with(self.told), gauge)

    def readings(self):
        """Readings that keep the book and the told bounds, None if there are none."""
        return kept(self._gauges, self._rules_with(self.told))

    def begin(self):
        """Begins a block."""
        self._beginnings.append(len(self._deeds))

    def finish(self):
        """Ends the innermost block: the watch is again what it was at its beginning."""
        if not self._beginnings:
            raise NoBlock("no block has begun")
        beginning = self._beginnings.pop()
        self._deeds = self._deeds[:beginning]

    def twin(self):
        """An independent copy outside of all blocks, which can take back each deed."""
        return self._made_with(self._gauges, self._book, self._deeds)

    @classmethod
    def _made_with(cls, gauges, book, deeds):
        """A watch of this class with some deeds."""
        made = cls(gauges, book)
        made._deeds = list(deeds)
        return made

    def _rules_with(self, bounds):
        """The book with bounds as rules behind it."""
        rules = [("bound", bound) for bound in bounds]
        return (*self._book, *rules)

    def _news_of(self, bounds):
        """The tuple of the bounds that are news, each beside what is told and the news ahead of it."""
        news = ()
        for bound in bounds:
            if not follows(self._gauges, self._rules_with(self.told + news), ("bound", bound)):
                news = (*news, bound)
        return news

    def _added(self, news):
        """Adds news as one deed, if there are any, and returns how many."""
        if len(news) > 0:
            self._deeds.append(news)
        return len(news)


class StrictWatch(Watch):
    """A watch that is told nothing that would leave no readings."""

    def tell(self, gauge, way, number):
        """As of a Watch; Contradicted if a bound that is news would leave no readings."""
        news = self._news_of(bounds_to_tell(self._gauges, gauge, way, number))
        self._check_left(news)
        return self._added(news) == 1

    def show(self, gauge, number):
        """As of a Watch; Contradicted if what is news would leave no readings."""
        news = self._news_of(bounds_to_show(self._gauges, gauge, number))
        self._check_left(news)
        return self._added(news)

    def _check_left(self, news):
        """Contradicted if news would leave no readings; without news nothing is said of what is left."""
        if len(news) > 0:
            blamed = blame(self._gauges, self._book, self.told + news)
            if blamed is not None:
                raise Contradicted(blamed)


def bounds_to_tell(gauges, gauge, way, number):
    """The tuple of the one bound that is told."""
    check_gauge(gauges, gauge)
    check_way(way)
    check_number(number)
    return ((gauge, way, number),)


def bounds_to_show(gauges, gauge, number):
    """The tuple of the two bounds of a gauge that shows a number."""
    check_gauge(gauges, gauge)
    check_number(number)
    return ((gauge, "least", number), (gauge, "most", number))
