"""[3] [4] [5] [9]: contrary, holds, broken, middle."""

import unittest
from itertools import permutations, product

from middlegauges.rules import broken, contrary, holds, middle

from tests.samples import BIG, bound_is_kept, made_books, rule_is_kept


class Contrary(unittest.TestCase):
    def test_both_ways(self):
        self.assertEqual(contrary(1, (0, "least", 5)), (0, "most", 4))
        self.assertEqual(contrary(1, (0, "most", 4)), (0, "least", 5))
        self.assertEqual(contrary(3, (2, "most", -1)), (2, "least", 0))
        self.assertEqual(contrary(3, (2, "least", -BIG)), (2, "most", -BIG - 1))

    def test_twice_it_is_the_bound_again(self):
        for bound in product(range(2), ("least", "most"), (-BIG, -3, -1, 0, 1, 4, BIG)):
            self.assertEqual(contrary(2, contrary(2, bound)), bound)

    def test_just_one_of_both_holds(self):
        for bound in product(range(1), ("least", "most"), range(-3, 4)):
            for shown in range(-5, 6):
                turned = contrary(1, bound)
                self.assertNotEqual(bound_is_kept(bound, (shown,)), bound_is_kept(turned, (shown,)))


class Holds(unittest.TestCase):
    def edge(self, rule, on, beside):
        """The rule holds on its edge, not by 1 beside it."""
        self.assertIs(holds(2, rule, on), True)
        self.assertIs(holds(2, rule, beside), False)

    def test_bounds(self):
        self.edge(("bound", (0, "least", 5)), (5, 0), (4, 9))
        self.edge(("bound", (0, "most", 5)), (5, 9), (6, 0))
        self.edge(("bound", (1, "least", -2)), (-9, -2), (9, -3))
        self.edge(("bound", (1, "most", -2)), (9, -2), (-9, -1))

    def test_apart(self):
        self.edge(("apart", 0, 1, 2), (5, 3), (6, 3))
        self.edge(("apart", 0, 1, 2), (5, 3), (5, 2))
        self.edge(("apart", 1, 0, 2), (3, 5), (3, 6))
        self.edge(("apart", 0, 1, -2), (3, 5), (3, 4))
        self.edge(("apart", 1, 0, 0), (7, 7), (7, 8))
        self.assertIs(holds(2, ("apart", 0, 1, 2), (-BIG, BIG)), True)

    def test_sums(self):
        self.edge(("sum", 0, 1, "most", 7), (4, 3), (4, 4))
        self.edge(("sum", 0, 1, "most", 7), (-1, 8), (0, 8))
        self.edge(("sum", 0, 1, "least", 7), (4, 3), (3, 3))
        self.edge(("sum", 0, 1, "least", -7), (-8, 1), (-8, 0))

    def test_either(self):
        rule = ("either", (0, "most", 3), (1, "least", 10))
        self.edge(rule, (3, 9), (4, 9))
        self.edge(rule, (4, 10), (4, 9))
        self.assertIs(holds(2, rule, (3, 10)), True)
        gap = ("either", (0, "most", 3), (0, "least", 8))
        self.assertEqual([holds(1, gap, (shown,)) for shown in range(2, 10)],
                         [True, True, False, False, False, False, True, True])
        twice = ("either", (1, "least", 2), (1, "least", 2))
        self.edge(twice, (0, 2), (0, 1))

    def test_three_gauges(self):
        self.assertIs(holds(3, ("apart", 2, 0, 1), (4, 99, 5)), True)
        self.assertIs(holds(3, ("apart", 2, 0, 1), (4, -99, 6)), False)
        self.assertIs(holds(3, ("sum", 0, 2, "least", 9), (4, -99, 5)), True)
        self.assertIs(holds(3, ("sum", 1, 2, "least", 9), (99, 4, 4)), False)

    def test_made_rules_as_the_document_tells(self):
        for gauges, book in made_books(seed=1, many=200):
            for readings in product(range(-6, 7, 3), repeat=gauges):
                for rule in book:
                    self.assertIs(holds(gauges, rule, readings), rule_is_kept(rule, readings))


class Broken(unittest.TestCase):
    BOOK = (("bound", (0, "least", 2)), ("apart", 0, 1, 2), ("sum", 0, 1, "most", 7),
            ("either", (0, "most", 3), (1, "least", 10)))

    def test_none_one_and_several(self):
        self.assertEqual(broken(2, self.BOOK, (3, 4)), [])
        self.assertEqual(broken(2, self.BOOK, (1, 4)), [0])
        self.assertEqual(broken(2, self.BOOK, (4, 3)), [3])
        self.assertEqual(broken(2, self.BOOK, (9, 5)), [1, 2, 3])
        self.assertEqual(broken(2, self.BOOK, (-3, 11)), [0, 2])
        self.assertEqual(broken(2, (), (-3, 11)), [])

    def test_a_rule_that_stands_twice_is_told_twice(self):
        self.assertEqual(broken(2, self.BOOK[:1] * 3, (1, 1)), [0, 1, 2])

    def test_a_new_list_at_each_call(self):
        for readings in ((3, 4), (9, 5)):
            told = broken(2, self.BOOK, readings)
            again = broken(2, self.BOOK, readings)
            self.assertIs(type(told), list)
            self.assertIsNot(told, again)
            told.append(17)
            self.assertEqual(broken(2, self.BOOK, readings), again)


class Middle(unittest.TestCase):
    def test_example(self):
        self.assertEqual(middle(2, first=(0, 9), second=(4, 5), third=(7, 1)), (4, 5))

    def test_in_all_sequences_of_the_three(self):
        for one, other, last in permutations(((0, 9, 3), (4, 5, 3), (7, 1, -8))):
            self.assertEqual(middle(3, first=one, second=other, third=last), (4, 5, 3))

    def test_each_gauge_by_itself(self):
        for one, other, last in product((-2, 0, 3), repeat=3):
            told = middle(2, first=(one, 0), second=(other, BIG), third=(last, -BIG))
            self.assertEqual(told, (sorted((one, other, last))[1], 0))
            self.assertIs(type(told), tuple)

    def test_equal_numbers(self):
        self.assertEqual(middle(1, first=(5,), second=(5,), third=(5,)), (5,))
        for one, other, last in permutations(((5,), (5,), (9,))):
            self.assertEqual(middle(1, first=one, second=other, third=last), (5,))
        for one, other, last in permutations(((5,), (5,), (-9,))):
            self.assertEqual(middle(1, first=one, second=other, third=last), (5,))

    def test_readings_by_name_only(self):
        with self.assertRaises(TypeError):
            middle(1, (1,), (2,), (3,))


if __name__ == "__main__":
    unittest.main()
