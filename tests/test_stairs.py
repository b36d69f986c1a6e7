"""[13]: extremes, stair, corners."""

import unittest
from itertools import permutations, product
from random import Random

from middlegauges.errors import InvalidGauge, InvalidWay, Unkeepable
from middlegauges.keeping import keepable
from middlegauges.rules import contrary
from middlegauges.spans import span
from middlegauges.stairs import corners, extremes, stair

from tests.boxes import boxes, cornered_boxes, is_kept, open_books
from tests.plainly import plain_corners, plain_extremes, plain_stair
from tests.samples import BIG, WAYS

HALVES = (("sum", 0, 1, "most", 7), ("apart", 0, 1, 2))
GAPPED = (("either", (0, "most", 3), (1, "least", 10)), ("either", (0, "most", 3), (0, "least", 8)),
          ("apart", 0, 1, 0))
RINGED = (("apart", 0, 1, -2), ("apart", 1, 0, 1))
ODD = (("apart", 0, 1, 0), ("apart", 1, 0, 0), ("sum", 0, 1, "most", 3), ("sum", 0, 1, "least", 3))


def told_stair(gauges, book, bound, other_gauge, other_way):
    """What stair tells, "cannot" if it raises Unkeepable."""
    try:
        return stair(gauges, book, bound, other_gauge, other_way)
    except Unkeepable:
        return "cannot"


def sharpest(way, numbers):
    """The number of the sharpest bound with a way, None if there is none."""
    known = [number for number in numbers if number is not None]
    if not known:
        return None
    return max(known) if way == "least" else min(known)


def pace(told, way, number, other_way):
    """What the extremes tell beside a bound."""
    least, greatest, least_sum, greatest_sum = told
    if way == other_way:
        extreme = least if way == "least" else greatest
        return None if extreme is None else number + extreme
    extreme = greatest_sum if other_way == "most" else least_sum
    return None if extreme is None else extreme - number


class Boxes(unittest.TestCase):
    def test_beside_all_readings_of_boxes(self):
        random = Random(61)
        self.corners = 0
        for gauges, book, found, move, size in boxes(seed=61, many=80) + cornered_boxes(seed=60, many=60):
            pairs = list(permutations(range(gauges), 2))
            for g, h in random.sample(pairs, min(len(pairs), 4)):
                if found:
                    self.assertEqual(extremes(gauges, book, g, h), plain_extremes(found, g, h))
                    self.check_stairs(gauges, book, found, move, size, g, h)
                else:
                    self.check_unkeepable(gauges, book, g, h)
        self.assertGreater(self.corners, 100)

    def check_stairs(self, gauges, book, found, move, size, g, h):
        for way, other_way in product(WAYS, WAYS):
            told = corners(gauges, book, g, way, h, other_way)
            self.assertEqual(told, plain_corners(found, g, way, h, other_way), (gauges, book, g, way, h, other_way))
            self.corners += len(told)
            for number in range(move[g] - size - 1, move[g] + size + 2):
                wanted = plain_stair(found, (g, way, number), h, other_way)
                self.assertEqual(told_stair(gauges, book, (g, way, number), h, other_way), wanted)

    def check_unkeepable(self, gauges, book, g, h):
        for call in (lambda: extremes(gauges, book, g, h), lambda: stair(gauges, book, (g, "least", 0), h, "most"),
                     lambda: corners(gauges, book, g, "most", h, "least")):
            with self.assertRaises(Unkeepable):
                call()


class Open(unittest.TestCase):
    """Without a box each answer is shown by readings, and by a paper that nothing goes beyond."""

    def setUp(self):
        self.seen = {}

    def test_extremes_each_shown_by_itself(self):
        for gauges, book in open_books(seed=62, many=70):
            if gauges > 1 and keepable(gauges, book):
                for g, h in list(permutations(range(gauges), 2))[:4]:
                    self.check_extremes(gauges, book, g, h)
        self.assertTrue(min(self.seen.values()) > 10 and len(self.seen) == 8, self.seen)

    def check_extremes(self, gauges, book, g, h):
        least, greatest, least_sum, greatest_sum = extremes(gauges, book, g, h)
        low, high = min(g, h), max(g, h)
        forms = (
            (0, least, -1, lambda k: ("apart", h, g, k)), (1, greatest, 1, lambda k: ("apart", g, h, -k)),
            (2, least_sum, -1, lambda k: ("sum", low, high, "most", k)),
            (3, greatest_sum, 1, lambda k: ("sum", low, high, "least", k)))
        for place, number, out, beyond in forms:
            self.seen[(place, number is None)] = self.seen.get((place, number is None), 0) + 1
            if number is None:
                self.assertTrue(is_kept(gauges, (*book, beyond(out * BIG))))
            else:
                self.assertTrue(is_kept(gauges, (*book, beyond(number))))
                self.assertFalse(is_kept(gauges, (*book, beyond(number + out))))

    def test_stairs_each_shown_by_itself(self):
        random = Random(63)
        for gauges, book in open_books(seed=63, many=120):
            if gauges > 1 and keepable(gauges, book):
                for _ in range(4):
                    g, h = random.sample(range(gauges), 2)
                    numbers = [rule[1][2] for rule in book if rule[0] in ("bound", "either")] or [0]
                    number = random.choice(numbers) + random.choice((-1, 0, 1, random.randint(-10 ** 11, 10 ** 11)))
                    self.check_stair(gauges, book, (g, random.choice(WAYS), number), h, random.choice(WAYS))
        self.assertTrue(min(self.seen.values()) > 10 and len(self.seen) == 3, self.seen)

    def check_stair(self, gauges, book, bound, h, other_way):
        told = told_stair(gauges, book, bound, h, other_way)
        kind = told if told in ("cannot", None) else "number"
        self.seen[kind] = self.seen.get(kind, 0) + 1
        beside = (*book, ("bound", bound))
        self.assertEqual(is_kept(gauges, beside), told != "cannot")
        turned = "most" if other_way == "least" else "least"
        out = -1 if other_way == "least" else 1
        if told is None:
            self.assertTrue(is_kept(gauges, (*beside, ("bound", (h, turned, out * BIG)))))
        elif told != "cannot":
            self.assertTrue(is_kept(gauges, (*beside, ("bound", (h, turned, told)))))
            self.assertFalse(is_kept(gauges, (*beside, ("bound", contrary(gauges, (h, other_way, told))))))

    def test_corners_are_just_what_is_missing_from_ends_and_extremes(self):
        many = 0
        for gauges, book in open_books(seed=64, many=100):
            if gauges > 1 and keepable(gauges, book):
                pairs = list(permutations(range(gauges), 2))[:8]
                for (g, h), way, other_way in product(pairs, WAYS, WAYS):
                    many += self.check_corners(gauges, book, g, way, h, other_way)
        self.assertGreater(many, 150)

    def check_corners(self, gauges, book, g, way, h, other_way):
        told = corners(gauges, book, g, way, h, other_way)
        sign, turn = (1 if way == "least" else -1), (1 if other_way == "least" else -1)
        self.assertEqual(told, sorted(told, key=lambda pair: pair[0] * sign))
        paces = extremes(gauges, book, g, h)
        least, greatest, _ = span(gauges, book, h)
        end = least if other_way == "least" else greatest
        for number, other_number in told:
            self.assertEqual(stair(gauges, book, (g, way, number), h, other_way), other_number)
            extreme = pace(paces, way, number, other_way)
            self.assertTrue(extreme is None or other_number * turn > extreme * turn)
            blunter = stair(gauges, book, (g, way, number - sign), h, other_way)
            self.assertTrue(blunter is None or other_number * turn > blunter * turn)
        tried = [number + by for number, _ in told for by in (-sign, 0, sign, 10 ** 11, -10 ** 11)]
        for number in (*tried, 0, 10 ** 13, -10 ** 13):
            wanted = [pair[1] for pair in told if pair[0] * sign <= number * sign]
            wanted = sharpest(other_way, [*wanted, end, pace(paces, way, number, other_way)])
            found = told_stair(gauges, book, (g, way, number), h, other_way)
            if found != "cannot":
                self.assertEqual(found, wanted, (gauges, book, g, way, number, h, other_way))
        return len(told)


class Extremes(unittest.TestCase):
    def test_both_sequences_of_two_gauges(self):
        self.assertEqual(extremes(2, HALVES, 0, 1), (-2, None, None, 7))
        self.assertEqual(extremes(2, HALVES, 1, 0), (None, 2, None, 7))
        self.assertEqual(extremes(2, GAPPED, 0, 1), (0, None, None, None))
        self.assertEqual(extremes(2, GAPPED, 1, 0), (None, 0, None, None))

    def test_none_where_there_is_none(self):
        self.assertEqual(extremes(5, (), 3, 1), (None, None, None, None))
        self.assertEqual(extremes(5, HALVES, 3, 1), (None, None, None, None))
        self.assertEqual(extremes(2, (("bound", (0, "least", 5)),), 0, 1), (None, None, None, None))

    def test_from_ends(self):
        book = (("bound", (0, "least", 5)), ("bound", (1, "most", -3)))
        self.assertEqual(extremes(2, book, 0, 1), (None, -8, None, None))
        self.assertEqual(extremes(2, book, 1, 0), (8, None, None, None))
        book = (("bound", (0, "least", 5)), ("bound", (1, "least", -3)))
        self.assertEqual(extremes(2, book, 0, 1), (None, None, 2, None))

    def test_from_halves(self):
        book = (*HALVES, ("bound", (1, "most", 10)), ("bound", (1, "least", 2)))
        self.assertEqual(extremes(2, book, 0, 1), (-2, None, None, 7))
        self.assertEqual(extremes(3, (*HALVES, ("bound", (2, "least", 0))), 0, 2), (-4, None, None, None))

    def test_a_stair_of_eithers_between_ends(self):
        steps = [("either", (0, "most", n - 1), (1, "least", n + 4)) for n in range(1, 6)]
        book = (*steps, ("bound", (0, "least", 0)), ("bound", (0, "most", 5)), ("bound", (1, "least", 3)))
        self.assertEqual(extremes(2, book, 0, 1), (3, None, 3, None))
        self.assertEqual(extremes(2, tuple(steps), 0, 1), (None, None, None, None))


class Stair(unittest.TestCase):
    def test_example(self):
        for number in range(-5, 20):
            wanted = number if number < 4 else max(number, 10)
            self.assertEqual(stair(2, GAPPED, (0, "least", number), 1, "least"), wanted)

    def test_four_pairs_of_ways(self):
        book = (("sum", 0, 1, "most", 20), ("sum", 0, 1, "least", 0), ("apart", 0, 1, 6), ("apart", 1, 0, 8))
        told = {(way, other_way): stair(2, book, (0, way, 9), 1, other_way) for way in WAYS for other_way in WAYS}
        self.assertEqual(told, {("least", "least"): 3, ("least", "most"): 11,
                                ("most", "least"): -3, ("most", "most"): 14})

    def test_the_end_that_is_a_half(self):
        book = (("sum", 0, 1, "most", 7), ("apart", 0, 1, 2), ("sum", 0, 2, "least", 1))
        self.assertEqual(stair(3, book, (2, "most", 5), 0, "most"), 4)
        self.assertEqual(stair(3, book, (0, "most", 9), 2, "least"), -3)
        self.assertEqual(stair(3, book, (0, "most", 2), 2, "least"), -1)
        self.assertEqual(stair(3, book, (1, "most", 0), 2, "least"), -1)

    def test_none(self):
        self.assertIsNone(stair(2, (), (0, "least", 4), 1, "least"))
        self.assertIsNone(stair(2, GAPPED, (0, "most", 4), 1, "least"))
        self.assertIsNone(stair(3, GAPPED, (0, "least", 4), 2, "least"))

    def test_a_bound_that_cannot_be(self):
        self.assertEqual(stair(2, HALVES, (0, "least", 4), 1, "least"), 2)
        self.assertEqual(stair(2, HALVES, (0, "least", 4), 1, "most"), 3)
        for number in (5, 6, BIG):
            with self.assertRaises(Unkeepable):
                stair(2, HALVES, (0, "least", number), 1, "most")

    def test_a_book_that_is_not_keepable(self):
        for book in (RINGED, ODD):
            with self.assertRaises(Unkeepable):
                stair(2, book, (0, "least", -BIG), 1, "most")

    def test_errors_about_parameters_come_first(self):
        for book in (RINGED, HALVES):
            for bad in (0, 2, True, None):
                with self.assertRaises(InvalidGauge):
                    stair(2, book, (0, "least", 5), bad, "more")
            with self.assertRaises(InvalidWay):
                stair(2, book, (0, "least", 5), 1, "more")


class Corners(unittest.TestCase):
    def test_example(self):
        self.assertEqual(corners(2, GAPPED, 0, "least", 1, "least"), [(4, 10)])
        self.assertEqual(corners(2, GAPPED, 0, "least", 1, "most"), [])

    def test_none(self):
        for way, other_way in product(WAYS, WAYS):
            self.assertEqual(corners(2, HALVES, 0, way, 1, other_way), [])
            self.assertEqual(corners(3, (), 2, way, 1, other_way), [])

    def test_told_from_the_other_side_with_contraries(self):
        for gauges, book, found, _, _ in boxes(seed=65, many=30) + cornered_boxes(seed=66, many=30):
            if gauges > 1 and found:
                for (g, h), way, other_way in product(list(permutations(range(gauges), 2))[:4], WAYS, WAYS):
                    self.check_turned(gauges, book, g, way, h, other_way)

    def check_turned(self, gauges, book, g, way, h, other_way):
        """A corner bars the pairs of its bound and the contrary of the other: told from h it is the turned pair."""
        turn = {"least": "most", "most": "least"}
        there = corners(gauges, book, h, turn[other_way], g, turn[way])
        here = corners(gauges, book, g, way, h, other_way)
        turned = [(contrary(gauges, (h, other_way, m))[2], contrary(gauges, (g, way, n))[2]) for n, m in here]
        self.assertEqual(sorted(turned), sorted(there))
        self.assertEqual(turned[::-1], there)

    def test_several_from_the_bluntest_to_the_sharpest(self):
        rules = tuple(("either", (0, "most", n - 1), (1, "least", n * n)) for n in (7, 3, 5))
        self.assertEqual(corners(2, rules, 0, "least", 1, "least"), [(3, 9), (5, 25), (7, 49)])
        self.assertEqual(corners(2, rules, 1, "most", 0, "most"), [(48, 6), (24, 4), (8, 2)])
        self.assertEqual(corners(2, rules, 0, "most", 1, "least"), [])
        rules = tuple(("either", (0, "least", n + 1), (1, "most", n)) for n in (-7, 3, 5))
        self.assertEqual(corners(2, rules, 0, "most", 1, "most"), [(5, 5), (3, 3), (-7, -7)])
        self.assertEqual(corners(2, rules, 1, "least", 0, "least"), [(-6, -6), (4, 4), (6, 6)])

    def test_blunter_ones_are_none(self):
        rules = (("either", (0, "most", 2), (1, "least", 9)), ("either", (0, "most", 4), (1, "least", 9)),
                 ("either", (0, "most", 6), (1, "least", 8)), ("bound", (1, "least", 1)), ("bound", (1, "most", 20)))
        self.assertEqual(corners(2, rules, 0, "least", 1, "least"), [(3, 9)])
        self.assertEqual(corners(2, (*rules, ("bound", (1, "least", 9))), 0, "least", 1, "least"), [])

    def test_what_the_extreme_tells_is_none(self):
        steps = tuple(("either", (0, "most", n - 1), (1, "least", n)) for n in range(1, 6))
        sides = (("bound", (0, "least", 0)), ("bound", (0, "most", 5)), ("bound", (1, "least", 0)))
        self.assertEqual(corners(2, steps + sides, 0, "least", 1, "least"), [])
        self.assertEqual(corners(2, steps, 0, "least", 1, "least"), [(n, n) for n in range(1, 6)])
        higher = ("either", (0, "most", 2), (1, "least", 4))
        self.assertEqual(corners(2, (*steps, *sides, higher), 0, "least", 1, "least"), [(3, 4)])

    def test_beside_gaps(self):
        book = (("either", (0, "most", 3), (0, "least", 8)), ("apart", 0, 1, 2), ("sum", 0, 1, "most", 60))
        self.assertEqual(corners(2, book, 0, "least", 1, "least"), [(4, 6)])
        self.assertEqual(corners(2, book, 0, "least", 1, "most"), [(4, 52)])
        self.assertEqual(corners(2, book, 1, "most", 0, "most"), [(5, 3)])
        self.assertEqual(corners(2, book, 1, "least", 0, "most"), [(53, 3)])
        self.assertEqual(corners(2, book, 0, "most", 1, "most"), [])
        two = (("either", (0, "most", 8), (0, "least", 10)), *book)
        self.assertEqual(corners(2, two, 0, "least", 1, "least"), [(4, 6), (9, 8)])

    def test_only_bounds_that_can_be(self):
        rules = (("either", (0, "most", 2), (1, "least", 9)), ("either", (0, "most", 4), (1, "least", 12)))
        self.assertEqual(corners(2, rules, 0, "least", 1, "least"), [(3, 9), (5, 12)])
        self.assertEqual(corners(2, (*rules, ("bound", (0, "most", 5))), 0, "least", 1, "least"), [(3, 9), (5, 12)])
        self.assertEqual(corners(2, (*rules, ("bound", (0, "most", 4))), 0, "least", 1, "least"), [(3, 9)])
        self.assertEqual(corners(2, (*rules, ("bound", (1, "most", 11))), 0, "least", 1, "least"), [(3, 9)])

    def test_a_book_that_is_not_keepable(self):
        for book in (RINGED, ODD):
            for call in (lambda: corners(2, book, 0, "least", 1, "most"), lambda: extremes(2, book, 0, 1)):
                with self.assertRaises(Unkeepable):
                    call()
            with self.assertRaises(InvalidWay):
                corners(2, book, 0, "least", 1, "mos")
            with self.assertRaises(InvalidGauge):
                corners(2, book, 0, "least", 0, "mos")
            with self.assertRaises(InvalidGauge):
                extremes(2, book, 1, 1)

    def test_a_new_list_at_each_call(self):
        told = corners(2, GAPPED, 0, "least", 1, "least")
        told.append("more")
        self.assertEqual(corners(2, GAPPED, 0, "least", 1, "least"), [(4, 10)])


if __name__ == "__main__":
    unittest.main()
