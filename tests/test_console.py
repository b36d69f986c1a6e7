"""[18]: the console."""

import unittest
from random import Random

from middlegauges.books import follows
from middlegauges.console import Console
from middlegauges.errors import InvalidBook, InvalidCommand, InvalidCount, NothingToUndo, Unkeepable
from middlegauges.regions import Region
from middlegauges.watches import Watch
from middlegauges.words import read_rule, write_rule

from tests.boxes import boxes, cornered_boxes, open_books
from tests.grammar import misplaced, rule_place, rule_rows
from tests.plainly import always, plain_blame, plain_span, shifted_rule, with_bounds
from tests.samples import ALL_KINDS, NOTHING_KNOWN, WAYS, WRONG_BOOKS, WRONG_COUNTS, made_rule, rule_is_kept

HALVES = (("sum", 0, 1, "most", 7), ("apart", 0, 1, 2))
GAPPED = (("either", (0, "most", 3), (1, "least", 10)), ("either", (0, "most", 3), (0, "least", 8)),
          ("apart", 0, 1, 0))
RINGED = (("apart", 0, 1, -2), ("apart", 1, 0, 1))
MOST = 10 ** 12 - 1

# What tells all that a console of two gauges keeps.
ASKING = ("told", "left a", "left b", "blame", "try undo", "try tell a >= 3", "try show b 2")

# Of two gauges.
NO_COMMANDS = (
    "", " ", "\n", "tel a >= 5", "Tell a >= 5", "TELL a >= 5", "help", "told ", " told", "told\n", "told  ",
    "told told", "told a", "told -", "tell", "tell ", "tell a", "tell a >=", "tell a >= ", "tell a >= 5 ",
    "tell  a >= 5", "tell a >= 5 6", "tell a > 5", "tell a >= -0", "tell a >= 007", "tell a >= +5",
    "tell c >= 5", "tell a <= b + 3", "tell a + b <= 7",
    "tell a >= 5 and b >= 5", "tell either a <= 3 or b >= 10", "tell bound a >= 5", "tell 0 least 5", "tell a least 5",
    "tell a >= 1000000000000", "tell a >= -", "tell a >= b", "tell a >= 5\n", "tell tell a >= 5", "tell try a >= 5",
    "show", "show a", "show a ", "show 5", "show a 5 5", "show a -", "show a -0", "show a 05", "show c 5", "show 0 5",
    "show a b", "show a >= 5", "show a 5 ", "show  a 5", "show ab 5", "show a 1000000000000", "show a five",
    "undo ", "undo 1", "undo undo", " undo", "undone", "left", "left ", "left c", "left 0", "left a b", "left A",
    "left ab", "left a ", "left  a", "left -", "blame ", "blame a", "blame none", "follows", "follows ", "follows a",
    "follows a <= b", "follows a <= a + 1", "follows b + a <= 7", "follows a >= 5 and b >= 5", "follows a >= 5 ",
    "follows -", "follows a <= b + -3", "follows a <= b - 0", "follows c >= 5", "follows either a <= 3",
    "follow a >= 5",
    "try", "try ", "try try", "try  told", " try told", "Try told", "tried told", "told try", "try told try",
    "try try try", "try told told", "try tell", "try undo 1", "try left", "try begin", "begin", "finish", "twin",
    "readings", "a >= 5", "try follows a", "try tell c >= 5", "try show a", "try try left c",
    "try " * 9 + "told", "try " * 12 + "undo", "try" * 3 + " told", "try " * 8 + "nothing",
    "try " * 8, ("try " * 8)[:-1],
)

NO_STRINGS = (*[value for value in NOTHING_KNOWN if type(value) is not str], 5, 0, ["told"], ("told",), [["told"]],
              ("tell", "a", ">=", "5"), Region(2), Watch(2, ()), Console(2, ()))


def written_span(told):
    """[18] left."""
    least, greatest, gaps = told
    words = ["-" if end is None else str(end) for end in (least, greatest)] + [f"{p}:{q}" for p, q in gaps]
    return " ".join(words)


def written_blame(told):
    """[18] blame."""
    if told is None:
        return "none"
    return " ".join(map(str, told)) if told else "book"


def written_bounds(bounds):
    """[18] told."""
    texts = [f"{'abcde'[gauge]} {'>=' if way == 'least' else '<='} {number}" for gauge, way, number in bounds]
    return " and ".join(texts) or "-"


def outcome(console, command):
    """What a command returns, or the name of its error."""
    try:
        return console.execute(command)
    except (NothingToUndo, InvalidCommand) as error:
        return type(error).__name__


def is_command(gauges, command):
    """Whether [18] has this command, by the rows of words."""
    words = command.split(" ")
    tries = 0
    while tries < len(words) and words[tries] == "try":
        tries += 1
    words = words[tries:]
    if tries > 8 or not words:
        return False
    letters, rows = "abcde"[:gauges], rule_rows(gauges)
    kinds = {
        "tell": [row for row in rows if len(row) == 3], "follows": rows, "undo": [()], "told": [()], "blame": [()],
        "left": [(letter,) for letter in letters], "show": [(letter, "any number") for letter in letters]}
    if words[0] not in kinds:
        return False
    if len(words) == 1:
        return kinds[words[0]] == [()]
    return misplaced(kinds[words[0]], words[1:]) is None


class BesideBoxes(unittest.TestCase):
    """Commands beside all kept readings of a box, and beside a Watch."""

    def check_told(self, console, watch, found, gauges):
        told = watch.told
        left = with_bounds(found, told)
        self.assertEqual(console.execute("told"), written_bounds(told))
        self.assertEqual(console.execute("blame"), written_blame(plain_blame(found, told)))
        for gauge in range(gauges):
            expected = written_span(plain_span(left, gauge)) if left else "none"
            self.assertEqual(console.execute(f"left {'abcde'[gauge]}"), expected)

    def command(self, random, watch, found, move, size):
        """A command, and what it does on a watch."""
        gauge = random.randrange(len(move))
        number = move[gauge] + random.randint(-size, size)
        if found and random.random() < 0.7:
            number = random.choice(found)[gauge] + random.choice((0, 0, 1, -1))
        letter, way = "abcde"[gauge], random.choice(WAYS)
        rule = shifted_rule(made_rule(random, len(move), size, ALL_KINDS), move)
        return random.choice((
            (f"tell {letter} {'>=' if way == 'least' else '<='} {number}",
             lambda one: "news" if one.tell(gauge, way, number) else "known"),
            (f"show {letter} {number}", lambda one: str(one.show(gauge, number))),
            ("undo", lambda one: str(one.undo())),
            (f"follows {write_rule(len(move), rule)}", lambda one: "yes" if always(found, rule) else "no"),
            (f"left {letter}", lambda one: self.left(one, gauge)),
            ("blame", lambda one: written_blame(one.blame())), ("told", lambda one: written_bounds(one.told))))

    def left(self, watch, gauge):
        try:
            return written_span(watch.left(gauge))
        except Unkeepable:
            return "none"

    def answer(self, does, watch):
        try:
            return does(watch)
        except NothingToUndo:
            return "NothingToUndo"

    def tried(self, does, watch, tries):
        """What is answered within blocks of a watch."""
        for _ in range(tries):
            watch.begin()
        answer = self.answer(does, watch)
        for _ in range(tries):
            watch.finish()
        return answer

    def test_runs(self):
        random = Random(191)
        seen = {}
        for gauges, book, found, move, size in boxes(191, 60) + cornered_boxes(192, 25):
            console, watch = Console(gauges, book), Watch(gauges, book)
            for _ in range(18):
                command, does = self.command(random, watch, found, move, size)
                tries = random.choice((0, 0, 0, 1, 2, 8))
                if not is_command(gauges, command):
                    # It has a number of 13 digits.
                    self.assertEqual(outcome(console, "try " * tries + command), "InvalidCommand")
                    continue
                expected = self.tried(does, watch, tries)
                self.assertEqual(outcome(console, "try " * tries + command), expected, command)
                key = (command.split(" ")[0], expected.split(" ")[0])
                seen[key] = seen.get(key, 0) + 1
                self.check_told(console, watch, found, gauges)
        for key in (("tell", "news"), ("tell", "known"), ("show", "0"), ("show", "1"), ("show", "2"), ("undo", "1"),
                    ("undo", "2"), ("undo", "NothingToUndo"), ("follows", "yes"), ("follows", "no"), ("left", "none"),
                    ("blame", "none"), ("blame", "book"), ("blame", "0"), ("told", "-")):
            self.assertGreater(seen[key], 3, key)


class Making(unittest.TestCase):
    def test_by_position_and_by_name(self):
        for console in (Console(2, HALVES), Console(book=HALVES, gauges=2)):
            self.assertEqual(console.execute("left a"), "- 4")
            self.assertEqual(console.execute(command="left b"), "- -")

    def test_it_is_defined_in_its_file(self):
        self.assertEqual(Console.__module__, "middlegauges.console")
        self.assertIn("execute", vars(Console))
        self.assertIn("__init__", vars(Console))

    def test_wrong_arguments(self):
        for wrong in (*WRONG_COUNTS, Region(2)):
            for book in (HALVES, None):
                with self.assertRaises(InvalidCount):
                    Console(wrong, book)
        for wrong in (*WRONG_BOOKS, Region(2, *HALVES), Watch(2, ())):
            with self.assertRaises(InvalidBook):
                Console(2, wrong)
        with self.assertRaises(InvalidBook):
            Console(gauges=1, book=HALVES)

    def test_two_consoles_keep_a_watch_each(self):
        one, other = Console(2, HALVES), Console(2, HALVES)
        one.execute("tell a >= 2")
        self.assertEqual((one.execute("told"), other.execute("told")), ("a >= 2", "-"))


class Commands(unittest.TestCase):
    def check_run(self, console, run):
        for command, expected in run:
            self.assertEqual(outcome(console, command), expected, command)

    def test_a_run(self):
        self.check_run(Console(2, GAPPED), (
            ("told", "-"), ("left a", "- - 3:8"), ("left b", "- -"), ("blame", "none"), ("undo", "NothingToUndo"),
            ("tell a >= 4", "news"), ("tell a >= 8", "known"), ("left a", "8 -"), ("left b", "10 -"),
            ("show b 20", "2"), ("left a", "8 20"), ("told", "a >= 4 and b >= 20 and b <= 20"), ("show b 20", "0"),
            ("undo", "2"), ("tell b <= 9", "news"), ("blame", "0 1"), ("left a", "none"), ("left b", "none"),
            ("tell a >= 100", "known"), ("show a 5", "0"), ("told", "a >= 4 and b <= 9"), ("undo", "1"), ("undo", "1"),
            ("undo", "NothingToUndo"), ("told", "-"), ("show a 3", "2"), ("left a", "3 3"), ("left b", "3 -")))

    def test_blame(self):
        self.check_run(Console(2, HALVES), (
            ("blame", "none"), ("tell a >= 5", "news"), ("blame", "0"), ("undo", "1"), ("tell b >= 0", "news"),
            ("tell a >= 5", "news"), ("blame", "1"), ("undo", "1"), ("tell a <= -1", "news"), ("tell b <= -4", "news"),
            ("blame", "0 2")))
        self.check_run(Console(2, RINGED), (
            ("blame", "book"), ("tell a >= 5", "known"), ("show b 5", "0"), ("told", "-"), ("left a", "none"),
            ("blame", "book"), ("undo", "NothingToUndo"), ("follows a >= 5", "yes"),
            ("follows a <= b - 999999999999", "yes")))

    def test_follows_is_for_the_book_alone(self):
        self.check_run(Console(2, HALVES), (
            ("follows a <= 4", "yes"), ("follows a <= 3", "no"), ("tell a <= 3", "news"), ("follows a <= 3", "no"),
            ("follows a + b <= 7", "yes"), ("follows a + b <= 6", "no"), ("follows a <= b + 2", "yes"),
            ("follows a <= b + 1", "no"), ("follows either a <= 4 or b >= 99", "yes"),
            ("tell a >= 100", "news"), ("left a", "none"), ("follows a <= 3", "no"), ("follows a <= 4", "yes")))

    def test_left(self):
        gaps = tuple(("either", (0, "most", p), (0, "least", q)) for p, q in ((-20, -8), (-8, -3), (0, 5), (7, MOST)))
        self.check_run(Console(1, gaps), (
            ("left a", f"- - -20:-8 -8:-3 0:5 7:{MOST}"), ("tell a <= 6", "news"), ("left a", "- 6 -20:-8 -8:-3 0:5"),
            ("tell a >= -10", "news"), ("left a", "-8 6 -8:-3 0:5"), ("show a 0", "2"), ("left a", "0 0")))

    def test_numbers_that_are_put_out_may_be_greater(self):
        book = (("apart", 0, 1, -MOST), ("apart", 1, 2, -MOST))
        self.check_run(Console(3, book), (
            (f"tell a >= {MOST}", "news"), ("left c", f"{3 * MOST} -"), ("left b", f"{2 * MOST} -"),
            (f"tell b >= {MOST}", "known"), (f"tell c >= {3 * MOST}", "InvalidCommand"),
            (f"show c {2 * MOST}", "InvalidCommand"), (f"follows a <= c - {2 * MOST}", "InvalidCommand"),
            ("told", f"a >= {MOST}")))


class Tries(unittest.TestCase):
    def check_unchanged(self, console, command, expected):
        before = [outcome(console, asked) for asked in ASKING]
        self.assertEqual(outcome(console, command), expected, command)
        self.assertEqual([outcome(console, asked) for asked in ASKING], before, command)

    def test_around_each_command(self):
        for tries in range(1, 9):
            console = Console(2, HALVES)
            console.execute("tell a <= 2")
            console.execute("show b 1")
            for command, expected in (
                    ("tell a >= 1", "news"), ("tell a <= 5", "known"), ("show a 0", "2"), ("show a 9", "1"),
                    ("show b 1", "0"), ("undo", "NothingToUndo"), ("told", "a <= 2 and b >= 1 and b <= 1"),
                    ("left a", "- 2"), ("left b", "1 1"), ("blame", "none"), ("follows a <= 4", "yes"),
                    ("follows a <= 3", "no"), ("nothing", "InvalidCommand"), ("tell a >= 05", "InvalidCommand")):
                self.check_unchanged(console, "try " * tries + command, expected)
            self.assertEqual([console.execute("undo"), console.execute("undo")], ["2", "1"])
            self.assertEqual(outcome(console, "undo"), "NothingToUndo")

    def test_eight_and_nine(self):
        console = Console(2, HALVES)
        self.assertEqual(console.execute("try " * 8 + "tell a >= 1"), "news")
        for many in (9, 10, 100):
            self.check_unchanged(console, "try " * many + "tell a >= 1", "InvalidCommand")

    def test_no_block_stays_behind(self):
        console = Console(2, HALVES)
        for _ in range(30):
            self.assertEqual(outcome(console, "try undo"), "NothingToUndo")
            self.assertEqual(outcome(console, "try try tell a >= 1"), "news")
        console.execute("tell a >= 1")
        self.assertEqual(outcome(console, "try try undo"), "NothingToUndo")
        # Within a block that was left open this could not be taken back later.
        self.assertEqual((console.execute("undo"), outcome(console, "undo")), ("1", "NothingToUndo"))


class NoCommands(unittest.TestCase):
    def consoles(self):
        for book in (HALVES, GAPPED, RINGED):
            console = Console(2, book)
            console.execute("tell a <= 2")
            yield console

    def check_refused(self, console, command):
        before = [outcome(console, asked) for asked in ASKING]
        with self.assertRaises(InvalidCommand, msg=repr(command)) as caught:
            console.execute(command)
        self.assertIs(type(caught.exception), InvalidCommand)
        self.assertEqual([outcome(console, asked) for asked in ASKING], before)

    def test_strings(self):
        for console in self.consoles():
            for command in NO_COMMANDS:
                self.assertFalse(is_command(2, command), command)
                self.check_refused(console, command)

    def test_any_other_value(self):
        for console in self.consoles():
            for value in NO_STRINGS:
                self.check_refused(console, value)

    def test_a_word_too_many_too_few_or_bent(self):
        right = ("tell a >= 5", "show a 5", "undo", "told", "left a", "blame", "follows a + b <= 7",
                 "follows a <= b - 3", "follows either a <= 3 or b >= 10", "try tell a >= 5", "try try undo")
        strange = ("", "x", "A", "try", "told", "a", "c", "5", "-0", "05", ">=", "+", "-", "5\n", "or")
        told = {True: 0, False: 0}
        for command in right:
            words = command.split(" ")
            self.assertTrue(is_command(2, command))
            bent = [words[:at] + words[at + 1:] for at in range(len(words))]
            bent += [words[:at] + [word] + words[at:] for at in range(len(words) + 1) for word in strange]
            bent += [words[:at] + [word] + words[at + 1:] for at in range(len(words)) for word in strange]
            for some in (" ".join(one) for one in bent):
                console = Console(2, HALVES)
                if is_command(2, some):
                    self.assertNotEqual(outcome(console, some), "InvalidCommand", some)
                else:
                    self.check_refused(console, some)
                told[is_command(2, some)] += 1
        self.assertGreater(min(told.values()), 20)

    def test_letters_that_the_panel_lacks(self):
        for gauges in range(1, 6):
            console = Console(gauges, ())
            for at, letter in enumerate("abcdef"):
                for command in (f"left {letter}", f"show {letter} 5", f"tell {letter} >= 5", f"follows {letter} >= 5"):
                    self.assertEqual(outcome(console, "try " + command) == "InvalidCommand", at >= gauges)

    def test_long_strings(self):
        console = Console(2, HALVES)
        for command in ("x" * 4000, "try " * 1000, " " * 4000, "tell a >= " + "5" * 3980, "told" + " told" * 700):
            self.check_refused(console, command)


class BesideTheFunctions(unittest.TestCase):
    def test_open_books(self):
        random = Random(195)
        for gauges, book in open_books(seed=195, many=60, size=10 ** 6):
            console, watch = Console(gauges, book), Watch(gauges, book)
            for _ in range(6):
                rule = made_rule(random, gauges, 10 ** 6, ALL_KINDS)
                text = write_rule(gauges, rule)
                self.assertIsNone(rule_place(gauges, text))
                expected = "yes" if follows(gauges, book, read_rule(gauges, text)) else "no"
                self.assertEqual(console.execute(f"follows {text}"), expected)
                bound = (random.randrange(gauges), random.choice(WAYS), random.randint(-10 ** 6, 10 ** 6))
                told = console.execute(f"tell {write_rule(gauges, ('bound', bound))}")
                self.assertEqual(told, "news" if watch.tell(*bound) else "known")
                self.assertEqual(console.execute("blame"), written_blame(watch.blame()))
                self.assertEqual(console.execute("told"), written_bounds(watch.told))
                left = watch.readings()
                self.assertEqual(console.execute("left a"), "none" if left is None else written_span(watch.left(0)))
                if left is not None:
                    self.assertTrue(all(rule_is_kept(one, left) for one in book))


if __name__ == "__main__":
    unittest.main()
