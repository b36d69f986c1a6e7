"""Words: rules, books and parts as texts."""

from middlegauges.checks import check_book, check_gauges, check_part, check_rule
from middlegauges.errors import InvalidWords

LETTERS = "abcde"

SIGNS = {"least": ">=", "most": "<="}
WAYS_OF_SIGNS = {">=": "least", "<=": "most"}

# Of a number that is read; what is written may have more.
MOST_DIGITS = 12


def write_rule(gauges, rule):
    """The text of a rule."""
    check_gauges(gauges)
    check_rule(gauges, rule)
    return text_of_rule(rule)


def read_rule(gauges, words):
    """The rule of a text."""
    check_gauges(gauges)
    reader = Reader(gauges, words)
    rule = rule_from(reader)
    reader.end()
    return rule


def write_book(gauges, book):
    """The text of a book."""
    check_gauges(gauges)
    check_book(gauges, book)
    return text_of_book(book)


def read_book(gauges, words):
    """The book of a text."""
    check_gauges(gauges)
    reader = Reader(gauges, words)
    book = book_from(reader)
    reader.end()
    return book


def write_part(gauges, part):
    """The text of a part."""
    check_gauges(gauges)
    check_part(gauges, part)
    return " ".join(["-" if number is None else str(number) for number in part])


def read_part(gauges, words):
    """The part of a text."""
    check_gauges(gauges)
    reader = Reader(gauges, words)
    part = [shown_from(reader) for _ in range(gauges)]
    reader.end()
    return tuple(part)


def text_of_bound(bound):
    """The text of a bound."""
    gauge, way, number = bound
    return f"{LETTERS[gauge]} {SIGNS[way]} {number}"


def text_of_apart(rule):
    """The text of an apart rule."""
    _, gauge, other_gauge, number = rule
    sign = "-" if number < 0 else "+"
    return f"{LETTERS[gauge]} <= {LETTERS[other_gauge]} {sign} {abs(number)}"


def text_of_rule(rule):
    """The text of a rule that is taken as checked."""
    kind = rule[0]
    if kind == "bound":
        return text_of_bound(rule[1])
    if kind == "apart":
        return text_of_apart(rule)
    if kind == "sum":
        _, gauge, other_gauge, way, number = rule
        return f"{LETTERS[gauge]} + {LETTERS[other_gauge]} {SIGNS[way]} {number}"
    return f"either {text_of_bound(rule[1])} or {text_of_bound(rule[2])}"


def text_of_book(book):
    """The text of a book that is taken as checked."""
    if len(book) == 0:
        return "-"
    return " and ".join([text_of_rule(rule) for rule in book])


class Reader:
    """A text of a panel's gauges that is read word by word. letters is the list of the letters of the gauges.

    InvalidWords if the word ahead cannot stand or is missing: in both cases its place is how many words were read.
    """

    def __init__(self, gauges, text):
        self.letters = list(LETTERS[:gauges])
        self._words = text.split(" ")
        self._read = 0

    def ahead(self):
        """The word ahead, None behind the last one."""
        return self._words[self._read] if self._read < len(self._words) else None

    def word(self, known):
        """Reads one of some words."""
        word = self.ahead()
        if word not in known:
            raise InvalidWords(self._read)
        self._read += 1
        return word

    def number(self, least=None):
        """Reads a number; one that is not less than the least, if there is a least one."""
        word = self.ahead()
        if word is None or not is_number(word) or is_less(int(word), least):
            raise InvalidWords(self._read)
        self._read += 1
        return int(word)

    def end(self):
        """InvalidWords if a word is ahead."""
        if self.ahead() is not None:
            raise InvalidWords(self._read)


def is_number(word):
    """Whether a word is a number that can be read."""
    digits = word[1:] if word.startswith("-") else word
    if not digits.isascii() or not digits.isdigit() or len(digits) > MOST_DIGITS:
        return False
    return word == "0" or not digits.startswith("0")


def is_less(number, least):
    """Whether a number is less than the least, None for no least one."""
    return least is not None and number < least


def gauge_from(reader, letters):
    """Reads the letter of a gauge, one of some letters."""
    return LETTERS.index(reader.word(letters))


def bound_from(reader):
    """Reads a bound."""
    gauge = gauge_from(reader, reader.letters)
    sign = reader.word((">=", "<="))
    return (gauge, WAYS_OF_SIGNS[sign], reader.number())


def rule_from(reader):
    """Reads a rule."""
    if reader.ahead() == "either":
        return either_from(reader)
    gauge = gauge_from(reader, reader.letters)
    behind = reader.letters[gauge + 1:]
    others = reader.letters[:gauge] + behind
    # No sum begins with the last gauge.
    sign = reader.word((">=", "<=", "+") if behind else (">=", "<="))
    if sign == "+":
        return sum_from(reader, gauge, behind)
    if sign == "<=" and reader.ahead() in others:
        return apart_from(reader, gauge, others)
    return ("bound", (gauge, WAYS_OF_SIGNS[sign], reader.number()))


def either_from(reader):
    """Reads an either rule."""
    reader.word(("either",))
    bound = bound_from(reader)
    reader.word(("or",))
    return ("either", bound, bound_from(reader))


def sum_from(reader, gauge, others):
    """Reads a sum rule of a gauge from behind its sign +; others are the letters that can stand there."""
    other_gauge = gauge_from(reader, others)
    sign = reader.word((">=", "<="))
    return ("sum", gauge, other_gauge, WAYS_OF_SIGNS[sign], reader.number())


def apart_from(reader, gauge, others):
    """Reads an apart rule of a gauge from behind its sign <=; others are the letters that can stand there."""
    other_gauge = gauge_from(reader, others)
    if reader.word(("+", "-")) == "+":
        return ("apart", gauge, other_gauge, reader.number(least=0))
    return ("apart", gauge, other_gauge, -reader.number(least=1))


def book_from(reader):
    """Reads a book."""
    if reader.ahead() == "-":
        reader.word(("-",))
        return ()
    rules = [rule_from(reader)]
    while reader.ahead() == "and":
        reader.word(("and",))
        rules.append(rule_from(reader))
    return tuple(rules)


def shown_from(reader):
    """Reads what a gauge shows in a part."""
    if reader.ahead() == "-":
        reader.word(("-",))
        return None
    return reader.number()
