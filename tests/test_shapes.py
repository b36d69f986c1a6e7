"""[3] [4] [5] [9]: what is a bound, a rule, a book, readings, a part."""

import unittest
from collections import namedtuple

from middlegauges.rules import is_book, is_bound, is_part, is_readings, is_rule

from tests.samples import (
    BIG, RIGHT_BOUNDS, RIGHT_RULES, WAYS, WRONG_BOOKS, WRONG_BOUND_ROWS, WRONG_BOUNDS, WRONG_READINGS, WRONG_RULES)

Bound = namedtuple("Bound", "gauge way number")
Pair = namedtuple("Pair", "one other")


def nested(value, deep):
    for _ in range(deep):
        value = (value,)
    return value


class Shapes(unittest.TestCase):
    def each_is(self, told, function, gauges, values):
        for value in values:
            with self.subTest(value=value):
                self.assertIs(function(gauges, value), told)

    def test_bounds(self):
        self.each_is(True, is_bound, 2, RIGHT_BOUNDS)
        self.each_is(False, is_bound, 2, WRONG_BOUNDS)
        self.each_is(False, is_bound, 2, WRONG_BOUND_ROWS[1:2] + RIGHT_RULES)

    def test_gauges_are_those_below_the_count(self):
        for gauges in range(1, 6):
            for gauge in range(-2, 8):
                for way in WAYS:
                    self.assertIs(is_bound(gauges, (gauge, way, 0)), 0 <= gauge < gauges)

    def test_rules(self):
        self.each_is(True, is_rule, 2, RIGHT_RULES)
        self.each_is(False, is_rule, 2, WRONG_RULES)
        self.each_is(False, is_rule, 2, RIGHT_BOUNDS)

    def test_rules_on_each_two_gauges(self):
        for gauges in range(1, 6):
            for g in range(-1, 7):
                for h in range(-1, 7):
                    both = 0 <= g < gauges and 0 <= h < gauges
                    self.assertIs(is_rule(gauges, ("apart", g, h, 0)), both and g != h)
                    self.assertIs(is_rule(gauges, ("sum", g, h, "least", 0)), both and g < h)
                    self.assertIs(is_rule(gauges, ("sum", g, h, "most", 0)), both and g < h)
                    self.assertIs(is_rule(gauges, ("either", (g, "least", 0), (h, "most", 0))), both)

    def test_an_either_may_be_on_one_gauge_and_have_one_bound_twice(self):
        bound = (0, "least", 3)
        self.assertIs(is_rule(1, ("either", bound, bound)), True)
        self.assertIs(is_rule(1, ("either", bound, (0, "most", 8))), True)

    def test_books(self):
        self.each_is(True, is_book, 2, [(), RIGHT_RULES, RIGHT_RULES[:1], RIGHT_RULES + RIGHT_RULES])
        self.each_is(True, is_book, 2, [(rule,) for rule in RIGHT_RULES])
        self.each_is(False, is_book, 2, WRONG_BOOKS)
        self.each_is(False, is_book, 2, [(*RIGHT_RULES, rule) for rule in WRONG_RULES])
        self.each_is(False, is_book, 2, [(rule, *RIGHT_RULES) for rule in WRONG_RULES])
        self.each_is(False, is_book, 2, RIGHT_RULES)

    def test_the_empty_book_is_one_the_empty_list_is_none(self):
        for gauges in range(1, 6):
            self.assertIs(is_book(gauges, ()), True)
            self.assertIs(is_book(gauges, []), False)

    def test_readings(self):
        self.each_is(True, is_readings, 2, [(1, 2), (0, 0), (-3, BIG), (-BIG, -BIG)])
        self.each_is(False, is_readings, 2, WRONG_READINGS)

    def test_parts(self):
        right = [(1, 2), (1, None), (None, 2), (None, None), (-BIG, None), (0, 0)]
        self.each_is(True, is_part, 2, right)
        self.each_is(False, is_part, 2, [value for value in WRONG_READINGS if value not in right])
        self.each_is(False, is_part, 2, [(None, True), (False, None), (None,), (None, None, None), [None, None]])

    def test_readings_and_parts_have_one_item_for_each_gauge(self):
        for gauges in range(1, 6):
            for many in range(0, 8):
                self.assertIs(is_readings(gauges, (0,) * many), many == gauges)
                self.assertIs(is_part(gauges, (None,) * many), many == gauges)
                self.assertIs(is_part(gauges, (0,) * many), many == gauges)
                self.assertIs(is_readings(gauges, [0] * many), False)
                self.assertIs(is_part(gauges, [0] * many), False)

    def test_exactly_tuples_are_meant(self):
        self.assertIs(is_bound(1, Bound(0, "least", 5)), False)
        self.assertIs(is_rule(1, Pair("bound", (0, "least", 5))), False)
        self.assertIs(is_book(2, Pair(RIGHT_RULES[0], RIGHT_RULES[1])), False)
        self.assertIs(is_readings(2, Pair(1, 2)), False)
        self.assertIs(is_part(2, Pair(1, None)), False)

    def test_limits_of_use_are_not_looked_at(self):
        far = 10 ** 200
        self.assertIs(is_bound(1, (0, "least", far)), True)
        self.assertIs(is_rule(2, ("apart", 0, 1, -far)), True)
        self.assertIs(is_rule(2, ("sum", 0, 1, "most", far)), True)
        self.assertIs(is_readings(2, (far, -far)), True)
        self.assertIs(is_part(2, (far, None)), True)
        self.assertIs(is_book(2, RIGHT_RULES * 300), True)

    def test_any_value_may_be_asked_about(self):
        for function in (is_bound, is_rule, is_book, is_readings, is_part):
            for value in (nested(5, 25), nested((), 24), list(range(1400)), "x" * 4000, "a\nb", (("bound",) * 700)):
                self.assertIs(function(2, value), False)


if __name__ == "__main__":
    unittest.main()
