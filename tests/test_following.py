"""[6] [10]: forced, ring, brought, clash."""

import unittest
from itertools import permutations, product

from middlegauges.following import brought, clash, forced, ring

from tests.samples import (
    BIG, WAYS, all_that_comes, has_ring, made_books, paper_fault, plainly_forced, ring_fault, some_oppose)

# The examples of [7].
HALVES = (("sum", 0, 1, "most", 7), ("apart", 0, 1, 2))
GAPPED = (("either", (0, "most", 3), (1, "least", 10)), ("either", (0, "most", 3), (0, "least", 8)),
          ("apart", 0, 1, 0))
RINGED = (("apart", 0, 1, -2), ("apart", 1, 0, 1))

# Gauge 0 at most 5 comes by the end of gauge 1; that 4 is its greatest does not come by following: 9 is odd.
HALVES_FROM_4 = [(0, "least", 4), (0, "most", 5), (1, "least", 2), (1, "most", 3)]


class Forced(unittest.TestCase):
    def test_apart_in_both_directions(self):
        rule = ("apart", 0, 1, 2)
        self.assertEqual(forced(2, rule, (0, "least", 5)), [(1, "least", 3)])
        self.assertEqual(forced(2, rule, (1, "most", 5)), [(0, "most", 7)])
        self.assertEqual(forced(2, rule, (0, "most", 5)), [])
        self.assertEqual(forced(2, rule, (1, "least", 5)), [])
        turned = ("apart", 1, 0, -2)
        self.assertEqual(forced(2, turned, (1, "least", 5)), [(0, "least", 7)])
        self.assertEqual(forced(2, turned, (0, "most", 5)), [(1, "most", 3)])
        self.assertEqual(forced(2, turned, (1, "most", 5)), [])
        self.assertEqual(forced(2, turned, (0, "least", 5)), [])

    def test_sum_at_most_in_both_directions(self):
        rule = ("sum", 0, 1, "most", 7)
        self.assertEqual(forced(2, rule, (0, "least", 5)), [(1, "most", 2)])
        self.assertEqual(forced(2, rule, (1, "least", -5)), [(0, "most", 12)])
        self.assertEqual(forced(2, rule, (0, "most", 5)), [])
        self.assertEqual(forced(2, rule, (1, "most", 5)), [])

    def test_sum_at_least_in_both_directions(self):
        rule = ("sum", 0, 1, "least", 7)
        self.assertEqual(forced(2, rule, (0, "most", 5)), [(1, "least", 2)])
        self.assertEqual(forced(2, rule, (1, "most", -5)), [(0, "least", 12)])
        self.assertEqual(forced(2, rule, (0, "least", 5)), [])
        self.assertEqual(forced(2, rule, (1, "least", 5)), [])

    def test_either_of_which_one_part_is_opposed(self):
        rule = ("either", (0, "most", 3), (1, "least", 10))
        self.assertEqual(forced(2, rule, (0, "least", 4)), [(1, "least", 10)])
        self.assertEqual(forced(2, rule, (0, "least", 3)), [])
        self.assertEqual(forced(2, rule, (1, "most", 9)), [(0, "most", 3)])
        self.assertEqual(forced(2, rule, (1, "most", 10)), [])

    def test_either_of_which_no_part_is_opposed(self):
        rule = ("either", (0, "most", 3), (1, "least", 10))
        self.assertEqual(forced(2, rule, (0, "most", -BIG)), [])
        self.assertEqual(forced(2, rule, (0, "most", BIG)), [])
        self.assertEqual(forced(2, rule, (1, "least", BIG)), [])
        self.assertEqual(forced(2, rule, (1, "least", -BIG)), [])

    def test_either_of_which_both_parts_are_opposed(self):
        for rule in (("either", (0, "least", 3), (0, "least", 8)), ("either", (0, "least", 8), (0, "least", 3))):
            self.assertEqual(forced(1, rule, (0, "most", 2)), [(0, "least", 3), (0, "least", 8)])
            self.assertEqual(forced(1, rule, (0, "most", 3)), [(0, "least", 3)])
            self.assertEqual(forced(1, rule, (0, "most", 7)), [(0, "least", 3)])
            self.assertEqual(forced(1, rule, (0, "most", 8)), [])
        for rule in (("either", (0, "most", 3), (0, "most", -8)), ("either", (0, "most", -8), (0, "most", 3))):
            self.assertEqual(forced(1, rule, (0, "least", 4)), [(0, "most", -8), (0, "most", 3)])
            self.assertEqual(forced(1, rule, (0, "least", -7)), [(0, "most", 3)])

    def test_each_bound_once(self):
        rule = ("either", (0, "least", 3), (0, "least", 3))
        self.assertEqual(forced(1, rule, (0, "most", 2)), [(0, "least", 3)])
        self.assertEqual(forced(1, rule, (0, "most", 3)), [])

    def test_either_on_one_gauge_with_a_gap(self):
        rule = ("either", (0, "most", 3), (0, "least", 8))
        self.assertEqual(forced(1, rule, (0, "least", 4)), [(0, "least", 8)])
        self.assertEqual(forced(1, rule, (0, "most", 7)), [(0, "most", 3)])
        self.assertEqual(forced(1, rule, (0, "least", 3)), [])
        self.assertEqual(forced(1, rule, (0, "most", 8)), [])

    def test_a_bound_rule_forces_nothing(self):
        for bound in product(range(2), WAYS, (-9, 4, 5, 6)):
            self.assertEqual(forced(2, ("bound", (0, "least", 5)), bound), [])

    def test_a_gauge_that_the_rule_does_not_have(self):
        rules = (("apart", 0, 1, 2), ("apart", 1, 0, 2), ("sum", 0, 1, "most", 7), ("sum", 0, 1, "least", 7),
                 ("either", (0, "most", 3), (1, "least", 10)), ("bound", (0, "least", 5)))
        for rule, way, number in product(rules, WAYS, (-BIG, 0, BIG)):
            self.assertEqual(forced(3, rule, (2, way, number)), [])

    def test_made_rules_as_the_document_tells(self):
        for gauges, book in made_books(seed=2, many=150):
            for rule in book:
                for bound in product(range(gauges), WAYS, range(-6, 7)):
                    self.assertEqual(forced(gauges, rule, bound), plainly_forced(rule, bound))

    def test_a_new_list_at_each_call(self):
        for bound in ((0, "least", 5), (0, "most", 5)):
            told = forced(2, HALVES[1], bound)
            again = forced(2, HALVES[1], bound)
            self.assertIs(type(told), list)
            told.append("more")
            self.assertEqual(forced(2, HALVES[1], bound), again)


class Rings(unittest.TestCase):
    def check_ring(self, gauges, book):
        found = ring(gauges, book)
        self.assertIsNone(ring_fault(book, found), found)
        return found

    def test_example(self):
        self.check_ring(2, RINGED)

    def test_two_apart_rules_gain_lose_or_stay(self):
        for gain in range(-3, 4):
            book = (("apart", 0, 1, -2), ("apart", 1, 0, 2 - gain))
            if gain > 0:
                self.check_ring(2, book)
            else:
                self.assertIsNone(ring(2, book))

    def test_circles_of_all_lengths(self):
        for gauges in range(2, 6):
            for gain in (-1, 0, 1, 5, BIG):
                circle = [("apart", gauge, (gauge + 1) % gauges, 7 * gauge) for gauge in range(gauges)]
                total = sum(rule[3] for rule in circle)
                circle[1] = (*circle[1][:3], circle[1][3] - total - gain)
                for book in (tuple(circle), tuple(reversed(circle))):
                    if gain > 0:
                        self.check_ring(gauges, book)
                    else:
                        self.assertIsNone(ring(gauges, book))

    def test_two_sums(self):
        self.check_ring(2, (("sum", 0, 1, "most", 6), ("sum", 0, 1, "least", 7)))
        self.check_ring(2, (("sum", 0, 1, "least", BIG), ("sum", 0, 1, "most", -BIG)))
        self.assertIsNone(ring(2, (("sum", 0, 1, "most", 7), ("sum", 0, 1, "least", 7))))
        self.assertIsNone(ring(2, (("sum", 0, 1, "most", 8), ("sum", 0, 1, "least", 7))))

    def test_sums_and_aparts_together(self):
        for gain in (-1, 0, 1):
            # a + b <= 7, b + c >= 4: so a <= c + 3; and c <= a - 3 - gain.
            book = (("sum", 0, 1, "most", 7), ("sum", 1, 2, "least", 4), ("apart", 2, 0, -3 - gain))
            if gain > 0:
                self.check_ring(3, book)
            else:
                self.assertIsNone(ring(3, book))

    def test_a_ring_through_both_ways_of_a_gauge(self):
        for least in range(-3, 3):
            # The first three rules: twice gauge 0 is at most -1; the last two: it is at least this number.
            book = (("sum", 0, 1, "most", 1), ("sum", 1, 2, "least", 3), ("sum", 0, 2, "most", 1),
                    ("sum", 0, 3, "least", least), ("apart", 3, 0, 0))
            if least > -1:
                found = self.check_ring(4, book)
                self.assertEqual(len({bound[:2] for _, bound in found[1] if bound[0] == 0}), 2)
            else:
                self.assertIsNone(ring(4, book))

    def test_halves_are_no_ring(self):
        self.assertIsNone(ring(2, (("apart", 0, 1, 0), ("apart", 1, 0, 0), ("sum", 0, 1, "most", 1),
                                   ("sum", 0, 1, "least", 1))))

    def test_among_other_rules(self):
        others = (("bound", (0, "least", 5)), ("either", (0, "most", 3), (1, "least", 10)), ("apart", 1, 2, 40),
                  ("sum", 0, 2, "most", 100))
        for book in permutations((*others[:3], *RINGED)):
            self.check_ring(3, book)
        self.assertIsNone(ring(3, others))

    def test_bounds_and_eithers_make_none(self):
        self.assertIsNone(ring(1, ()))
        self.assertIsNone(ring(1, (("bound", (0, "least", 1)), ("bound", (0, "most", 0)))))
        self.assertIsNone(ring(1, (("either", (0, "least", 1), (0, "least", 2)), ("bound", (0, "most", 0)))))
        self.assertIsNone(ring(2, HALVES))
        self.assertIsNone(ring(2, GAPPED))

    def test_far_from_the_first_gauges(self):
        self.check_ring(5, (("apart", 0, 1, 3), ("apart", 4, 3, -1), ("apart", 3, 4, 0)))

    def test_made_books(self):
        found = 0
        for gauges, book in made_books(seed=3, many=600, most_gauges=5, most_rules=12):
            if has_ring(gauges, book):
                self.check_ring(gauges, book)
                found += 1
            else:
                self.assertIsNone(ring(gauges, book))
        self.assertTrue(50 < found < 550)

    def test_many_rules(self):
        for seed in range(20):
            for gauges, book in made_books(seed, many=5, most_gauges=5, most_rules=60, size=200):
                self.assertEqual(ring(gauges, book) is None, not has_ring(gauges, book))


class Brought(unittest.TestCase):
    def test_examples(self):
        self.assertIsNone(brought(2, HALVES, ((0, "least", 5),)))
        self.assertEqual(brought(2, HALVES, ((0, "least", 4),)), HALVES_FROM_4)
        self.assertEqual(brought(2, GAPPED, ((0, "least", 3),)), [(0, "least", 3), (1, "least", 3)])
        for number in (4, 8):
            self.assertEqual(brought(2, GAPPED, ((0, "least", number),)), [(0, "least", 8), (1, "least", 10)])
        self.assertEqual(brought(2, GAPPED, ((0, "least", 12),)), [(0, "least", 12), (1, "least", 12)])
        self.assertIsNone(brought(2, GAPPED, ((0, "least", 4), (0, "most", 7))))

    def test_no_bounds(self):
        self.assertEqual(brought(2, (), ()), [])
        self.assertEqual(brought(2, HALVES, ()), [])
        self.assertEqual(brought(2, (*HALVES, ("bound", (0, "least", 4))), ()), HALVES_FROM_4)

    def test_a_book_with_a_ring(self):
        self.assertIsNone(brought(2, RINGED, ()))
        self.assertIsNone(brought(3, RINGED, ((2, "least", 5),)))
        self.assertIsNone(brought(2, (("sum", 0, 1, "most", 6), ("sum", 0, 1, "least", 7)), ()))

    def test_bounds_that_clash_by_themselves(self):
        self.assertIsNone(brought(1, (), ((0, "least", 5), (0, "most", 4))))
        self.assertIsNone(brought(1, (), ((0, "most", 4), (0, "least", -1), (0, "least", 5))))
        self.assertEqual(brought(1, (), ((0, "least", 5), (0, "most", 5))), [(0, "least", 5), (0, "most", 5)])

    def test_bounds_that_clash_through_bound_rules(self):
        book = (("bound", (0, "most", 4)),)
        self.assertIsNone(brought(1, book, ((0, "least", 5),)))
        self.assertEqual(brought(1, book, ((0, "least", 4),)), [(0, "least", 4), (0, "most", 4)])
        self.assertIsNone(brought(2, (*book, ("bound", (0, "least", 5))), ((1, "least", 0),)))
        self.assertIsNone(brought(2, (*book, ("apart", 1, 0, 0)), ((1, "least", 5),)))

    def test_bounds_that_clash_through_eithers(self):
        book = (("either", (0, "most", 3), (1, "least", 10)),)
        self.assertIsNone(brought(2, book, ((0, "least", 4), (1, "most", 9))))
        self.assertEqual(brought(2, book, ((0, "least", 3), (1, "most", 9))),
                         [(0, "least", 3), (0, "most", 3), (1, "most", 9)])
        both = (("either", (0, "most", 3), (1, "least", 10)), ("either", (0, "most", 5), (1, "most", 8)))
        self.assertIsNone(brought(2, both, ((0, "least", 6),)))
        self.assertEqual(brought(2, both, ((0, "least", 5),)), [(0, "least", 5), (0, "most", 5), (1, "least", 10)])

    def test_only_the_sharpest_at_each_place(self):
        told = ((0, "least", 2), (0, "least", 5), (0, "least", 3), (0, "most", 9), (0, "most", 11), (0, "most", 9))
        for bounds in (told, tuple(reversed(told))):
            self.assertEqual(brought(1, (), bounds), [(0, "least", 5), (0, "most", 9)])
        book = (("bound", (1, "least", 4)), ("apart", 0, 1, 0))
        self.assertEqual(brought(2, book, ((0, "least", 3),)), [(0, "least", 3), (1, "least", 4)])
        self.assertEqual(brought(2, book, ((0, "least", 7),)), [(0, "least", 7), (1, "least", 7)])

    def test_ascending_by_gauge_and_way(self):
        bounds = tuple(product((4, 2, 0, 3, 1), ("most", "least"), (7,)))
        self.assertEqual(brought(5, (), bounds), sorted(bounds))

    def test_a_blunter_bound_may_come_first(self):
        # The short way to gauge 2 brings less than the long one.
        book = (("apart", 0, 2, 0), ("apart", 0, 1, -5), ("apart", 1, 2, -5))
        for mixed in permutations(book):
            self.assertEqual(brought(3, mixed, ((0, "least", 1),)), [(0, "least", 1), (1, "least", 6), (2, "least", 11)])

    def test_circles_without_gain_come_to_an_end(self):
        book = (("apart", 0, 1, -2), ("apart", 1, 0, 2), ("sum", 0, 1, "most", BIG))
        self.assertEqual(brought(2, book, ((0, "least", 0),)),
                         [(0, "least", 0), (0, "most", BIG - 2), (1, "least", 2), (1, "most", BIG)])

    def test_long_rows_of_eithers(self):
        stairs = tuple(("either", (0, "most", 10 * k), (0, "least", 10 * k + 9)) for k in range(40))
        climbing = (*stairs, ("apart", 0, 1, -1), ("apart", 1, 2, 0), ("apart", 2, 0, 1))
        self.assertEqual(brought(3, climbing, ((0, "least", 1),)), [(0, "least", 9), (1, "least", 10), (2, "least", 10)])
        linked = tuple(("either", (0, "most", k), (1, "least", k + 1)) for k in range(60))
        back = tuple(("either", (1, "most", k), (0, "least", k + 2)) for k in range(60))
        self.assertEqual(brought(2, linked + back, ((0, "least", 1),)), [(0, "least", 61), (1, "least", 60)])

    def test_made_books(self):
        lists = 0
        for gauges, book in made_books(seed=4, many=500, most_gauges=4):
            for bounds in ((), ((0, "least", 1),), ((0, "most", -2), (gauges - 1, "least", 3), (0, "most", 0))):
                told = brought(gauges, book, bounds)
                comes = [] if has_ring(gauges, book) else all_that_comes(book, bounds)
                if has_ring(gauges, book) or some_oppose(comes):
                    self.assertIsNone(told)
                else:
                    self.assertEqual(told, comes)
                    lists += 1
        self.assertGreater(lists, 300)

    def test_a_new_list_at_each_call(self):
        told = brought(2, HALVES, ((0, "least", 4),))
        again = brought(2, HALVES, ((0, "least", 4),))
        self.assertIs(type(told), list)
        told.clear()
        self.assertEqual(brought(2, HALVES, ((0, "least", 4),)), again)


class Clash(unittest.TestCase):
    def check_paper(self, gauges, book, bound, word="oppose"):
        paper = clash(gauges, book, bound)
        self.assertIsNone(paper_fault(gauges, book, bound, paper), paper)
        self.assertEqual(paper[0], word)
        return paper

    def test_examples(self):
        self.check_paper(2, HALVES, (0, "least", 5))
        self.assertIsNone(clash(2, HALVES, (0, "least", 4)))
        self.check_paper(2, RINGED, (0, "least", 0), word="ring")
        self.assertIsNone(clash(2, GAPPED, (0, "least", 4)))
        self.assertIsNone(clash(2, GAPPED, (0, "most", 7)))

    def test_nothing_clashes_in_the_empty_book(self):
        for bound in product(range(2), WAYS, (-BIG, 0, BIG)):
            self.assertIsNone(clash(2, (), bound))

    def test_a_bound_that_opposes_a_bound_rule(self):
        book = (("apart", 0, 1, 3), ("bound", (0, "most", 4)))
        paper = self.check_paper(2, book, (0, "least", 5))
        self.assertIn((1, (0, "most", 4)), paper[1])
        self.assertIsNone(clash(2, book, (0, "least", 4)))
        self.check_paper(1, (("bound", (0, "least", 4)),), (0, "most", 3))

    def test_a_book_whose_bound_rules_oppose_each_other(self):
        book = (("bound", (0, "least", 1)), ("bound", (0, "most", 0)))
        for bound in product(range(2), WAYS, (-5, 0, 1, 5)):
            self.check_paper(2, book, bound)

    def test_a_ring_comes_before_all_else(self):
        book = (*RINGED, ("bound", (0, "least", 1)), ("bound", (0, "most", 0)))
        for bound in product(range(3), WAYS, (-5, 5)):
            paper = self.check_paper(3, book, bound, word="ring")
            self.assertEqual(paper, ("ring", ring(3, book)))

    def test_through_eithers(self):
        both = (("either", (0, "most", 3), (1, "least", 10)), ("either", (0, "most", 5), (1, "most", 8)))
        self.check_paper(2, both, (0, "least", 6))
        self.assertIsNone(clash(2, both, (0, "least", 5)))
        self.check_paper(1, (("either", (0, "least", 3), (0, "least", 3)),), (0, "most", 2))

    def test_through_a_long_row(self):
        book = (("apart", 0, 1, 0), ("either", (1, "most", 4), (2, "least", 7)), ("sum", 2, 3, "most", 9),
                ("apart", 4, 3, 0), ("bound", (4, "least", 3)))
        self.check_paper(5, book, (0, "least", 5))
        self.assertIsNone(clash(5, book, (0, "least", 4)))
        self.check_paper(5, tuple(reversed(book)), (0, "least", 5))

    def test_made_books(self):
        words = {"ring": 0, "oppose": 0, None: 0}
        for gauges, book in made_books(seed=5, many=500, most_gauges=4, most_rules=9):
            for bound in ((0, "least", 2), (gauges - 1, "most", -1)):
                paper = clash(gauges, book, bound)
                if has_ring(gauges, book) or some_oppose(all_that_comes(book, (bound,))):
                    self.assertIsNotNone(paper)
                    self.assertIsNone(paper_fault(gauges, book, bound, paper), paper)
                else:
                    self.assertIsNone(paper)
                words[paper and paper[0]] += 1
        self.assertGreater(min(words.values()), 50)

    def test_it_tells_what_brought_tells(self):
        for gauges, book in made_books(seed=6, many=200, most_gauges=4):
            for bound in product(range(gauges), WAYS, (-4, 0, 4)):
                self.assertEqual(clash(gauges, book, bound) is None, brought(gauges, book, (bound,)) is not None)


if __name__ == "__main__":
    unittest.main()
