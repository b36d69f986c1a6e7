"""[17]: words."""

import unittest
from itertools import product
from random import Random

from middlegauges.errors import InvalidBook, InvalidCount, InvalidReadings, InvalidRule, InvalidWords
from middlegauges.regions import Region
from middlegauges.words import read_book, read_part, read_rule, write_book, write_part, write_rule

from tests.grammar import book_place, part_place, rule_place
from tests.samples import (
    ALL_KINDS, RIGHT_RULES, WAYS, WRONG_BOOKS, WRONG_COUNTS, WRONG_PARTS, WRONG_RULES, made_rule)

MOST = 10 ** 12 - 1

# Of five gauges.
TEXTS = (
    (("bound", (0, "least", 5)), "a >= 5"), (("bound", (4, "most", -7)), "e <= -7"),
    (("bound", (1, "most", 0)), "b <= 0"), (("bound", (2, "least", MOST)), "c >= 999999999999"),
    (("bound", (3, "most", -MOST)), "d <= -999999999999"),
    (("apart", 0, 1, 3), "a <= b + 3"), (("apart", 0, 1, -3), "a <= b - 3"), (("apart", 0, 1, 0), "a <= b + 0"),
    (("apart", 1, 0, 3), "b <= a + 3"), (("apart", 4, 2, -MOST), "e <= c - 999999999999"),
    (("apart", 3, 4, MOST), "d <= e + 999999999999"),
    (("sum", 0, 1, "most", 7), "a + b <= 7"), (("sum", 0, 1, "least", -7), "a + b >= -7"),
    (("sum", 2, 4, "most", 0), "c + e <= 0"), (("sum", 1, 3, "least", -MOST), "b + d >= -999999999999"),
    (("either", (0, "most", 3), (1, "least", 10)), "either a <= 3 or b >= 10"),
    (("either", (4, "least", -3), (4, "least", 0)), "either e >= -3 or e >= 0"),
    (("either", (3, "most", MOST), (3, "most", -MOST)), "either d <= 999999999999 or d <= -999999999999"),
)

# Of two gauges: texts of no rule, with their places.
NO_RULES = (
    ("", 0), (" ", 0), (" a >= 5", 0), ("a >= 5 ", 3), ("a  >= 5", 1), ("a >=  5", 2), ("a >= 5  ", 3), ("\n", 0),
    ("a >= 5\n", 2), ("a\n>= 5", 0), ("a >= 5 \n", 3), ("-", 0), ("and", 0), ("5", 0), ("A >= 5", 0), ("ab >= 5", 0),
    ("a", 1), ("a >=", 2), ("a >= 5 5", 3), ("a >= 5 and b >= 5", 3), ("a > 5", 1), ("a = 5", 1), ("a >=5", 1),
    ("a>=5", 0), ("a >= -0", 2), ("a >= +5", 2), ("a >= 05", 2), ("a >= 007", 2), ("a >= -05", 2), ("a >= 00", 2),
    ("a >= - 5", 2), ("a >= -", 2), ("a >= --5", 2), ("a >= 5.0", 2), ("a >= 5_0", 2), ("a >= 1e3", 2), ("a >= x", 2),
    ("a >= 1000000000000", 2), ("a >= -1000000000000", 2), ("a >= b", 2), ("a >= b + 3", 2), ("c >= 5", 0),
    ("a <= a", 2), ("a <= a + 1", 2), ("a <= c + 1", 2), ("a <= b", 3), ("a <= b +", 4), ("a <= b 3", 3),
    ("a <= b + -3", 4), ("a <= b - -3", 4), ("a <= b - 0", 4), ("a <= b + 00", 4), ("a <= b - 03", 4),
    ("a <= b * 3", 3), ("a <= b +3", 3), ("a <= b + 3 3", 5), ("a <= b + b", 4), ("a <= b <= 3", 3), ("a <= - b", 2),
    ("a <= b + 1000000000000", 4), ("a <= b - 1000000000000", 4), ("a <= -", 2), ("a <= +", 2),
    ("b + a <= 1", 1), ("b + b <= 1", 1), ("b +", 1), ("a + a <= 1", 2), ("a + c <= 1", 2), ("a +", 2), ("a + b", 3),
    ("a + b <=", 4), ("a + b <= b", 4), ("a + b + 3", 3), ("a + b = 7", 3), ("a + b <= 7 8", 5), ("a + 3", 2),
    ("a - b <= 7", 1), ("a + b <= -0", 4), ("a + b >= 0000000000001", 4),
    ("either", 1), ("either or", 1), ("either a <= 3", 4), ("either a <= 3 or", 5), ("either a <= b", 3),
    ("either a <= 3 and b >= 1", 4), ("either a <= 3 or b >= 1 or a >= 5", 8), ("either a <= 3 or either", 5),
    ("either either a <= 3", 1), ("either a + b <= 3", 2), ("either a <= 3 or c >= 1", 5), ("or a <= 3", 0),
    ("either a <= 3 or b >= 01", 7), ("Either a <= 3 or b >= 1", 0), ("either a <= 3 or b <= a", 7),
)


def bent(random, text):
    """A text with one of its words left out, put in, doubled, exchanged or changed."""
    words = text.split(" ")
    at, other = random.randrange(len(words)), random.randrange(len(words))
    strange = (*"abcdef", ">=", "<=", "+", "-", "either", "or", "and", "0", "5", "-3", "-0", "007", "", "try", "5\n",
               "999999999999", "1000000000000", "-1000000000000", "+3", "--1", "==")
    way = random.randrange(6)
    if way == 0:
        del words[at]
    elif way == 1:
        words.insert(random.randint(0, len(words)), random.choice(strange))
    elif way == 2:
        words.insert(at, words[at])
    elif way == 3:
        words[at], words[other] = words[other], words[at]
    elif way == 4:
        words[at] = random.choice(strange)
    else:
        words[at] = random.choice((words[at] + " ", " " + words[at], "-" + words[at], "0" + words[at], words[at] + "0",
                                   words[at] + "\n", words[at].upper(), words[at][:-1]))
    return " ".join(words)


class Texts(unittest.TestCase):
    def check_refused(self, read, gauges, text, place):
        with self.assertRaises(InvalidWords, msg=f"{gauges} {text!r}") as caught:
            read(gauges, text)
        self.assertEqual(caught.exception.place, place, f"{gauges} {text!r}")
        self.assertIs(type(caught.exception.place), int)

    def check_against_the_grammar(self, read, write, place_of, gauges, text):
        """Returns whether the text can be read."""
        place = place_of(gauges, text)
        if place is None:
            self.assertEqual(write(gauges, read(gauges, text)), text)
        else:
            self.check_refused(read, gauges, text, place)
        return place is None


class Rules(Texts):
    def test_each_kind_is_written_and_read_back(self):
        for rule, text in TEXTS:
            self.assertEqual(write_rule(5, rule), text)
            self.assertEqual(read_rule(5, text), rule)
            self.assertEqual(write_rule(rule=rule, gauges=5), text)
            self.assertEqual(read_rule(words=text, gauges=5), rule)

    def test_all_gauges_and_ways(self):
        for gauges in range(1, 6):
            letters = "abcde"[:gauges]
            for g, h in product(range(gauges), repeat=2):
                for way, other_way in product(WAYS, WAYS):
                    sign, other_sign = ((">=", "<=")[WAYS.index(one)] for one in (way, other_way))
                    expected = {("bound", (g, way, -4)): f"{letters[g]} {sign} -4",
                                ("either", (g, way, 1), (h, other_way, 0)):
                                f"either {letters[g]} {sign} 1 or {letters[h]} {other_sign} 0"}
                    if g != h:
                        expected[("apart", g, h, 12)] = f"{letters[g]} <= {letters[h]} + 12"
                    if g < h:
                        expected[("sum", g, h, way, 12)] = f"{letters[g]} + {letters[h]} {sign} 12"
                    for rule, text in expected.items():
                        self.assertEqual((write_rule(gauges, rule), read_rule(gauges, text)), (text, rule))

    def test_made_rules_are_read_back(self):
        random = Random(181)
        for _ in range(400):
            gauges = random.randint(1, 5)
            rule = made_rule(random, gauges, random.choice((1, 20, MOST)), ALL_KINDS)
            self.assertEqual(read_rule(gauges, write_rule(gauges, rule)), rule)

    def test_texts_of_no_rule(self):
        for text, place in NO_RULES:
            self.assertEqual(rule_place(2, text), place, text)
            self.check_refused(read_rule, 2, text, place)

    def test_one_gauge(self):
        for text, place in (("a + a <= 1", 1), ("a + b <= 1", 1), ("a <= b + 1", 2), ("a <= a + 1", 2), ("b >= 1", 0),
                            ("a <= b", 2), ("a +", 1), ("either a <= 1 or b <= 1", 5)):
            self.assertEqual(rule_place(1, text), place, text)
            self.check_refused(read_rule, 1, text, place)
        self.assertEqual(read_rule(1, "either a <= 1 or a >= 4"), ("either", (0, "most", 1), (0, "least", 4)))

    def test_letters_that_the_panel_lacks(self):
        for gauges in range(1, 6):
            for at, letter in enumerate("abcdef"):
                if at >= gauges:
                    self.check_refused(read_rule, gauges, f"{letter} >= 1", 0)
                    self.check_refused(read_rule, gauges, f"a <= {letter} + 1", 2)
                    self.check_refused(read_rule, gauges, f"a + {letter} <= 1", 2 if gauges > 1 else 1)
                    self.check_refused(read_rule, gauges, f"either a <= 1 or {letter} >= 1", 5)
            self.check_refused(read_rule, gauges, f"{'abcde'[gauges - 1]} + a <= 1", 1)
        self.check_refused(read_rule, 3, "b + a <= 1", 2)

    def test_bent_texts_beside_the_grammar(self):
        random = Random(182)
        told = {True: 0, False: 0}
        for _ in range(5000):
            gauges = random.randint(1, 5)
            text = write_rule(gauges, made_rule(random, gauges, random.choice((1, 20, MOST)), ALL_KINDS))
            for _ in range(random.choice((1, 1, 2))):
                text = bent(random, text)
            told[self.check_against_the_grammar(read_rule, write_rule, rule_place, gauges, text)] += 1
        self.assertGreater(min(told.values()), 100)

    def test_each_beginning_of_a_text_misses_words(self):
        for rule, text in TEXTS:
            words = text.split(" ")
            for many in range(1, len(words)):
                self.check_refused(read_rule, 5, " ".join(words[:many]), many)

    def test_long_texts(self):
        self.check_refused(read_rule, 2, "a >= " + "9" * 3990, 2)
        self.check_refused(read_rule, 2, "a " * 1990, 1)
        self.check_refused(read_rule, 2, " " * 4000, 0)


class Books(Texts):
    def test_of_no_of_one_and_of_twelve_rules(self):
        rules = [rule for rule, _ in TEXTS]
        texts = [text for _, text in TEXTS]
        for many in (1, 2, 12):
            book, text = tuple(rules[-many:]), " and ".join(texts[-many:])
            self.assertEqual((write_book(5, book), read_book(5, text)), (text, book))
            self.assertEqual((write_book(book=book, gauges=5), read_book(words=text, gauges=5)), (text, book))
        for gauges in range(1, 6):
            self.assertEqual((write_book(gauges, ()), read_book(gauges, "-")), ("-", ()))

    def test_texts_of_no_book(self):
        for text, place in (
                ("", 0), ("- ", 1), (" -", 0), ("- -", 1), ("- and a >= 5", 1), ("a >= 5 and -", 4), ("and", 0),
                ("--", 0), ("a >= 5 and", 4), ("a >= 5 and ", 4), ("a >= 5  and b >= 5", 3), ("a >= 5 or b >= 5", 3),
                ("-0", 0), ("a >= 5 and and b >= 5", 4), ("and a >= 5", 0), ("a >= 5 b >= 5", 3),
                ("a >= 5 And b >= 5", 3), ("a >= 5 and b", 5), ("a <= b and a >= 5", 3),
                ("a >= 5 and b + a <= 5", 5), ("a >= 5 and b >= 05", 6),
                ("either a <= 3 and b >= 1", 4), ("a <= b + 3 and a + b <= 7 ", 11), ("a >= 5 and b >= 5 and", 8),
                ("a >= 5\nand b >= 5", 2), ("-\n", 0), (write_book(2, RIGHT_RULES[2:3] * 2) + " or", 11)):
            self.assertEqual(book_place(2, text), place, text)
            self.check_refused(read_book, 2, text, place)

    def test_made_books_and_bent_ones_beside_the_grammar(self):
        random = Random(183)
        told = {True: 0, False: 0}
        for _ in range(1500):
            gauges = random.randint(1, 5)
            size, many = random.choice((1, MOST)), random.randint(0, 4)
            book = tuple(made_rule(random, gauges, size, ALL_KINDS) for _ in range(many))
            text = write_book(gauges, book)
            self.assertEqual(read_book(gauges, text), book)
            for _ in range(3):
                some = bent(random, text)
                told[self.check_against_the_grammar(read_book, write_book, book_place, gauges, some)] += 1
        self.assertGreater(min(told.values()), 100)


class Parts(Texts):
    def test_with_and_without_none(self):
        for part, text in (((5,), "5"), ((None,), "-"), ((0, None), "0 -"), ((None, -7), "- -7"), ((None, None), "- -"),
                           ((1, None, -MOST, MOST, 0), "1 - -999999999999 999999999999 0"), ((None,) * 5, "- - - - -")):
            gauges = len(part)
            self.assertEqual((write_part(gauges, part), read_part(gauges, text)), (text, part))
            self.assertEqual((write_part(part=part, gauges=gauges), read_part(words=text, gauges=gauges)), (text, part))

    def test_texts_of_no_part(self):
        for text, place in (("", 0), (" ", 0), ("1", 1), ("-", 1), ("1 ", 1), (" 1 2", 0), ("1  2", 1), ("1 2 3", 2),
                            ("1 2 ", 2), ("1 -0", 1), ("1 --", 1), ("1 +2", 1), ("07 1", 0), ("1 a", 1), ("None 1", 0),
                            ("- - -", 2), ("1\n2", 0), ("1 2\n", 1), ("1, 2", 0), ("1000000000000 1", 0),
                            ("- -1000000000000", 1)):
            self.assertEqual(part_place(2, text), place, text)
            self.check_refused(read_part, 2, text, place)

    def test_made_parts_and_bent_ones_beside_the_grammar(self):
        random = Random(184)
        told = {True: 0, False: 0}
        for _ in range(1500):
            gauges = random.randint(1, 5)
            part = tuple(random.choice((None, 0, random.randint(-MOST, MOST))) for _ in range(gauges))
            text = write_part(gauges, part)
            self.assertEqual(read_part(gauges, text), part)
            some = bent(random, text)
            told[self.check_against_the_grammar(read_part, write_part, part_place, gauges, some)] += 1
        self.assertGreater(min(told.values()), 100)


class GreatNumbers(Texts):
    def test_they_are_written_and_refused_at_their_place(self):
        for far in (10 ** 12, -10 ** 12, 10 ** 13 + 7, -10 ** 40):
            sign = "-" if far < 0 else "+"
            for rule, text, place in (
                    (("bound", (0, "least", far)), f"a >= {far}", 2),
                    (("sum", 0, 1, "most", far), f"a + b <= {far}", 4),
                    (("apart", 1, 0, far), f"b <= a {sign} {abs(far)}", 4),
                    (("either", (0, "most", 3), (1, "least", far)), f"either a <= 3 or b >= {far}", 7),
                    (("either", (0, "most", far), (1, "least", 3)), f"either a <= {far} or b >= 3", 3)):
                self.assertEqual(write_rule(2, rule), text)
                self.check_refused(read_rule, 2, text, place)
                self.assertEqual(write_book(2, (rule, rule)), f"{text} and {text}")
                self.check_refused(read_book, 2, f"{text} and {text}", place)
            self.assertEqual(write_part(2, (None, far)), f"- {far}")
            self.check_refused(read_part, 2, f"- {far}", 1)


class WrongArguments(unittest.TestCase):
    def test_counts(self):
        right = ((write_rule, RIGHT_RULES[0]), (write_book, RIGHT_RULES), (write_part, (None, 5)),
                 (read_rule, "a >= 5"), (read_book, "-"), (read_part, "- 5"))
        for call, value in right:
            for wrong in (*WRONG_COUNTS, Region(2)):
                for one in (value, None, "", "no words"):
                    with self.assertRaises(InvalidCount):
                        call(wrong, one)

    def test_what_is_written(self):
        for call, error, values in ((write_rule, InvalidRule, WRONG_RULES), (write_book, InvalidBook, WRONG_BOOKS),
                                    (write_part, InvalidReadings, (None, *WRONG_PARTS))):
            for wrong in (*values, Region(2)):
                with self.assertRaises(error):
                    call(2, wrong)

    def test_what_fits_more_gauges(self):
        for rule in RIGHT_RULES[1:9]:
            with self.assertRaises(InvalidRule):
                write_rule(1, rule)
            with self.assertRaises(InvalidBook):
                write_book(1, (rule,))
        with self.assertRaises(InvalidReadings):
            write_part(1, (None, None))


if __name__ == "__main__":
    unittest.main()
