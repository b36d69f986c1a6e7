"""[7]: the facts that speak of following and of the middle, against all readings of small boxes."""

import unittest
from itertools import combinations, product

from middlegauges.following import brought, clash, ring
from middlegauges.rules import broken, middle

from tests.samples import WAYS, bound_is_kept, boxed, is_covered, kept_in_box, made_books

SIZE = 4


def boxed_books(seed, many, most_rules=5):
    """Made books in a box, with their kept readings, as (gauges, book, kept)."""
    made = []
    for gauges, book in made_books(seed, many, most_rules=most_rules, size=SIZE):
        closed = boxed(gauges, book, SIZE)
        made.append((gauges, closed, kept_in_box(gauges, closed, -SIZE - 1, SIZE + 1)))
    return made


def sharpest_that_holds(kept, gauge, way):
    shown = [readings[gauge] for readings in kept]
    return min(shown) if way == "least" else max(shown)


class Facts(unittest.TestCase):
    def test_f1_the_middle_of_kept_readings_is_kept(self):
        for gauges, book, kept in boxed_books(seed=11, many=40):
            for first, second, third in combinations(kept[:: len(kept) // 12 + 1], 3):
                told = middle(gauges, first=first, second=second, third=third)
                self.assertEqual(broken(gauges, book, told), [])
                self.assertIn(told, kept)

    def test_f2_a_book_with_a_ring_has_no_kept_readings(self):
        rings = 0
        for gauges, book, kept in boxed_books(seed=12, many=150, most_rules=12):
            if ring(gauges, book) is not None:
                self.assertEqual(kept, [])
                rings += 1
        self.assertGreater(rings, 20)

    def test_f2_what_comes_from_some_bounds_comes_from_each(self):
        for gauges, book in made_books(seed=13, many=200):
            bounds = ((0, "least", 1), (gauges - 1, "most", 3), (0, "least", -2))
            together = brought(gauges, book, bounds)
            if together is None:
                continue
            best = {}
            for alone in (brought(gauges, book, (bound,)) for bound in bounds):
                for bound in alone:
                    if not is_covered(best, bound):
                        best[bound[:2]] = bound[2]
            self.assertEqual(together, sorted((*place, number) for place, number in best.items()))

    def test_f3_a_book_is_keepable_just_if_nothing_splits_it(self):
        keepable = 0
        for gauges, book, kept in boxed_books(seed=14, many=120):
            split = [(gauge, n) for gauge, n in product(range(gauges), range(-SIZE - 1, SIZE + 3))
                     if clash(gauges, book, (gauge, "least", n)) and clash(gauges, book, (gauge, "most", n - 1))]
            self.assertEqual(bool(kept), ring(gauges, book) is None and not split)
            keepable += bool(kept)
        self.assertTrue(20 < keepable < 100)

    def test_f3_what_keeps_the_book_keeps_what_comes(self):
        for gauges, book, kept in boxed_books(seed=15, many=60):
            for bound in product(range(gauges), WAYS, range(-SIZE, SIZE + 1, 2)):
                beside = [readings for readings in kept if bound_is_kept(bound, readings)]
                told = brought(gauges, book, (bound,))
                if told is None:
                    self.assertEqual(beside, [])
                for readings in beside:
                    self.assertTrue(all(bound_is_kept(one, readings) for one in told))

    def test_f3_some_bounds_can_be_unless_one_or_two_clash(self):
        for gauges, book, kept in boxed_books(seed=16, many=60):
            if not kept:
                continue
            for numbers in product((-3, 0, 2), repeat=3):
                bounds = tuple((k % gauges, WAYS[k % 2], number) for k, number in enumerate(numbers))
                can_be = any(all(bound_is_kept(bound, readings) for bound in bounds) for readings in kept)
                clashing = any(brought(gauges, book, (one, other)) is None for one in bounds for other in bounds)
                self.assertEqual(can_be, not clashing)

    def test_f5_beside_a_bound_comes_the_sharpest_or_the_end_holds(self):
        for gauges, book, kept in boxed_books(seed=17, many=80):
            for gauge, way, number in product(range(gauges), WAYS, range(-SIZE, SIZE + 1)):
                beside = [readings for readings in kept if bound_is_kept((gauge, way, number), readings)]
                if beside:
                    self.check_beside(gauges, book, kept, beside, (gauge, way, number))

    def check_beside(self, gauges, book, kept, beside, bound):
        told = brought(gauges, book, (bound,))
        for other, other_way in product(range(gauges), WAYS):
            if other == bound[0]:
                continue
            comes = [number for gauge, way, number in told if (gauge, way) == (other, other_way)]
            candidates = [*comes, sharpest_that_holds(kept, other, other_way)]
            sharper = max(candidates) if other_way == "least" else min(candidates)
            self.assertEqual(sharper, sharpest_that_holds(beside, other, other_way))


if __name__ == "__main__":
    unittest.main()
