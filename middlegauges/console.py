"""The console: commands in words for a watch."""

from middlegauges.books import follows
from middlegauges.errors import InvalidCommand, InvalidWords, NothingToUndo, Unkeepable
from middlegauges.watches import Watch
from middlegauges.words import Reader, bound_from, gauge_from, rule_from, text_of_book

MOST_TRIES = 8

COMMANDS = ("tell", "show", "undo", "told", "left", "blame", "follows")


class Console:
    """A watch that is told and asked by commands."""

    def __init__(self, gauges, book):
        self._watch = Watch(gauges, book)

    def execute(self, command):
        """Does what a command says and returns what it tells."""
        tries, order = order_of(self._watch.gauges, command)
        return self._tried(tries, order)

    def _tried(self, tries, order):
        """Does an order within so many blocks."""
        if tries == 0:
            return self._done(order)
        self._watch.begin()
        try:
            answer = self._tried(tries - 1, order)
        except NothingToUndo:
            self._watch.finish()
            raise
        self._watch.finish()
        return answer

    def _done(self, order):
        """Does an order."""
        word, what = order
        if word == "tell":
            gauge, way, number = what
            return "news" if self._watch.tell(gauge, way, number) else "known"
        if word == "show":
            gauge, number = what
            return str(self._watch.show(gauge, number))
        if word == "undo":
            return str(self._watch.undo())
        if word == "left":
            return self._left(what)
        if word == "follows":
            return "yes" if follows(self._watch.gauges, self._watch.book, what) else "no"
        if word == "told":
            return text_of_book([("bound", bound) for bound in self._watch.told])
        return self._blame()

    def _left(self, gauge):
        """What a gauge can show, in words."""
        try:
            least, greatest, gaps = self._watch.left(gauge)
        except Unkeepable:
            return "none"
        ends = ["-" if end is None else str(end) for end in (least, greatest)]
        return " ".join([*ends, *[f"{before}:{behind}" for before, behind in gaps]])

    def _blame(self):
        """Who is to blame, in words."""
        blamed = self._watch.blame()
        if blamed is None:
            return "none"
        if len(blamed) == 0:
            return "book"
        return " ".join([str(index) for index in blamed])


def order_of(gauges, command):
    """A command as (how many words try stand ahead, order); InvalidCommand for any other value.

    An order is the word of a command and what stands behind it: a bound, a rule, a gauge, a gauge and a number, None.
    """
    if not isinstance(command, str):
        raise InvalidCommand("the command is no string")
    reader = Reader(gauges, command)
    try:
        tries = tries_from(reader)
        word = reader.word(COMMANDS)
        order = (word, what_from(reader, word))
        reader.end()
    except InvalidWords:
        raise InvalidCommand("the words are no command") from None
    return (tries, order)


def tries_from(reader):
    """Reads the words try that stand ahead and returns how many these are."""
    tries = 0
    while tries < MOST_TRIES and reader.ahead() == "try":
        reader.word(("try",))
        tries += 1
    return tries


def what_from(reader, word):
    """Reads what stands behind the word of a command."""
    if word == "tell":
        return bound_from(reader)
    if word == "follows":
        return rule_from(reader)
    if word == "left":
        return gauge_from(reader, reader.letters)
    if word == "show":
        gauge = gauge_from(reader, reader.letters)
        return (gauge, reader.number())
    return None
