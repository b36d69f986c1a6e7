"""[11]: keepable, paper, kept, can_be, blame."""

import unittest
from itertools import product
from random import Random

from middlegauges.following import ring
from middlegauges.keeping import blame, can_be, keepable, kept, paper

from tests.boxes import boxes, is_kept, not_kept_fault, open_books
from tests.plainly import plain_blame, shifted_bound, with_bounds, with_part
from tests.samples import BIG, WAYS, has_ring, made_bound, ring_fault, rule_is_kept

HALVES = (("sum", 0, 1, "most", 7), ("apart", 0, 1, 2))
GAPPED = (("either", (0, "most", 3), (1, "least", 10)), ("either", (0, "most", 3), (0, "least", 8)),
          ("apart", 0, 1, 0))
RINGED = (("apart", 0, 1, -2), ("apart", 1, 0, 1))

# Kept by (2, -3) alone.
LONELY = (("bound", (0, "least", 2)), ("apart", 0, 1, 5), ("sum", 0, 1, "most", -1))


def turning_ring(total):
    """Gauge 0 is gauge 1, and both together are the total: a ring of steps on which the sign is turned."""
    return (("apart", 0, 1, 0), ("apart", 1, 0, 0), ("sum", 0, 1, "most", total), ("sum", 0, 1, "least", total))


class Keepable(unittest.TestCase):
    def test_beside_all_readings_of_boxes(self):
        told = {True: 0, False: 0}
        for gauges, book, found, _, _ in boxes(seed=31, many=120):
            self.assertIs(keepable(gauges, book), bool(found), (gauges, book))
            self.assertEqual(is_kept(gauges, book), bool(found))
            told[bool(found)] += 1
        self.assertTrue(min(told.values()) > 20, told)

    def test_examples(self):
        self.assertIs(keepable(2, HALVES), True)
        self.assertIs(keepable(2, GAPPED), True)
        self.assertIs(keepable(2, RINGED), False)

    def test_the_book_without_rules(self):
        for gauges in range(1, 6):
            self.assertIs(keepable(gauges, ()), True)
            self.assertIsNone(paper(gauges, ()))
            self.assertEqual(len(kept(gauges, ())), gauges)

    def test_kept_by_one_reading_alone_and_broken_by_one_rule(self):
        for gauges, book, found, _, _ in boxes(seed=32, many=60):
            if not found:
                continue
            alone = found[len(found) // 2]
            pins = tuple(("bound", (gauge, way, alone[gauge])) for gauge in range(gauges) for way in WAYS)
            self.assertIs(keepable(gauges, book + pins), True)
            self.assertEqual(kept(gauges, book + pins), alone)
            for gauge in range(gauges):
                off = ("either", (gauge, "most", alone[gauge] - 1), (gauge, "least", alone[gauge] + 1))
                self.assertIs(keepable(gauges, (off, *book, *pins)), False)
                self.assertIsNone(not_kept_fault(gauges, (off, *book, *pins)))

    def test_kept_by_one_reading_alone_without_two_bounds(self):
        self.assertEqual(kept(2, LONELY), (2, -3))
        for index in range(3):
            self.assertIs(keepable(2, LONELY[:index] + LONELY[index + 1:]), True)
        for rule in (("bound", (1, "least", -2)), ("apart", 1, 0, -6), ("sum", 0, 1, "least", 0),
                     ("either", (0, "most", 1), (1, "most", -4))):
            self.assertIs(keepable(2, (*LONELY, rule)), False)
            self.assertIsNone(not_kept_fault(2, (*LONELY, rule)))

    def test_halves(self):
        far = 10 ** 12 - 2
        for total in (-far, -4, -2, 0, 2, 6, far):
            self.assertIs(keepable(2, turning_ring(total)), True)
            self.assertEqual(kept(2, turning_ring(total)), (total // 2, total // 2))
            self.assertIsNone(paper(2, turning_ring(total)))
        for total in (-far - 1, -3, -1, 1, 3, 7, far + 1):
            self.assertIs(keepable(2, turning_ring(total)), False)
            self.assertIsNone(ring(2, turning_ring(total)))
            self.assertEqual(paper(2, turning_ring(total))[0], "split")
            self.assertIsNone(not_kept_fault(2, turning_ring(total)))

    def test_halves_of_a_ring_over_five_gauges(self):
        steps = tuple(("apart", gauge, gauge + 1, 0) for gauge in range(4))
        for total in range(-5, 6):
            book = (*steps, ("sum", 0, 4, "least", total), ("apart", 4, 0, 0), ("sum", 1, 3, "most", total))
            self.assertIs(is_kept(5, book), total % 2 == 0)

    def test_open_books_each_shown_by_itself(self):
        told = {True: 0, False: 0}
        for gauges, book in open_books(seed=33, many=250):
            told[is_kept(gauges, book)] += 1
        self.assertTrue(min(told.values()) > 15, told)

    def test_true_and_false_are_told(self):
        for gauges, book in open_books(seed=34, many=20):
            self.assertIs(type(keepable(gauges, book)), bool)


class Paper(unittest.TestCase):
    def test_a_ring_is_told_exactly_if_there_is_one(self):
        told = {"ring": 0, "split": 0}
        for gauges, book in open_books(seed=35, many=400, size=6):
            found = paper(gauges, book)
            if found is None:
                self.assertFalse(has_ring(gauges, book))
                self.assertTrue(keepable(gauges, book))
                continue
            self.assertEqual(found[0] == "ring", has_ring(gauges, book))
            self.assertIsNone(not_kept_fault(gauges, book))
            told[found[0]] += 1
        self.assertTrue(min(told.values()) > 15, told)

    def test_example(self):
        word, found = paper(2, RINGED)
        self.assertEqual(word, "ring")
        self.assertIsNone(ring_fault(RINGED, found))

    def test_bounds_that_oppose_each_other_by_themselves(self):
        book = (("bound", (1, "least", 5)), ("bound", (1, "most", 4)))
        self.assertIsNone(not_kept_fault(3, book))
        self.assertEqual(paper(3, book)[0], "split")
        self.assertIsNone(paper(3, (book[0], ("bound", (1, "most", 5)))))

    def test_a_gap_that_bounds_fall_into(self):
        for low, high, fits in ((4, 7, False), (3, 7, True), (4, 8, True), (5, 5, False), (8, 8, True), (3, 3, True)):
            ends = (("bound", (0, "least", low)), ("bound", (0, "most", high)))
            book = (("either", (0, "most", 3), (0, "least", 8)), *ends)
            self.assertIs(is_kept(1, book), fits)

    def test_eithers_alone(self):
        corners = [((0, way, n), (1, other_way, m)) for way, n in (("least", 1), ("most", 0))
                   for other_way, m in (("least", 1), ("most", 0))]
        book = tuple(("either", *pair) for pair in corners)
        self.assertIs(is_kept(2, book), False)
        for index in range(4):
            self.assertIs(is_kept(2, book[:index] + book[index + 1:]), True)


class Kept(unittest.TestCase):
    def check(self, gauges, book, part, found):
        told = kept(gauges, book, part)
        agreeing = with_part(found, part)
        self.assertEqual(told is None, not agreeing, (gauges, book, part))
        if told is not None:
            self.assertIn(told, agreeing)

    def test_beside_all_readings_of_boxes(self):
        random = Random(36)
        for gauges, book, found, move, size in boxes(seed=36, many=100):
            for _ in range(10):
                filled = random.randint(0, gauges)
                wanted = [random.randint(-size - 1, size + 1) + move[gauge] for gauge in range(gauges)]
                part = tuple(shown if random.randrange(gauges) < filled else None for shown in wanted)
                self.check(gauges, book, part, found)
            self.check(gauges, book, (None,) * gauges, found)
            for whole in found[::max(1, len(found) // 5)]:
                self.assertEqual(kept(gauges, book, whole), whole)

    def test_each_whole_part_of_a_small_box(self):
        for gauges, book, found, move, size in boxes(seed=37, many=12, most_gauges=2):
            for readings in product(range(-size - 1, size + 2), repeat=gauges):
                whole = tuple(shown + moved for shown, moved in zip(readings, move))
                self.assertEqual(kept(gauges, book, whole), whole if whole in found else None)

    def test_no_part_none_and_a_part_without_numbers(self):
        for gauges, book in open_books(seed=38, many=60):
            told = kept(gauges, book)
            self.assertEqual(kept(gauges, book, None), told)
            self.assertEqual(kept(gauges, book, part=None), told)
            empty = kept(gauges, book, (None,) * gauges)
            self.assertEqual(empty is None, told is None)
            if empty is not None:
                self.assertTrue(all(rule_is_kept(rule, empty) for rule in book))

    def test_open_books_each_shown_by_itself(self):
        random = Random(39)
        told = {True: 0, False: 0}
        for gauges, book in open_books(seed=39, many=200):
            part = tuple(random.choice((None, random.randint(-10 ** 12, 10 ** 12))) for _ in range(gauges))
            pins = tuple(("bound", (gauge, way, shown)) for gauge, shown in enumerate(part) if shown is not None
                         for way in WAYS)
            found = kept(gauges, book, part)
            self.assertEqual(found is not None, is_kept(gauges, book + pins))
            if found is not None:
                self.assertTrue(all(rule_is_kept(rule, found) for rule in book + pins))
            told[found is not None] += 1
        self.assertTrue(min(told.values()) > 20, told)

    def test_examples(self):
        self.assertIsNone(kept(2, HALVES, (5, None)))
        self.assertEqual(kept(2, HALVES, (4, None)), (4, kept(2, HALVES, (4, None))[1]))
        self.assertIn(kept(2, HALVES, (4, None))[1], (2, 3))
        for number in range(0, 12):
            self.assertEqual(kept(2, GAPPED, (number, None)) is None, number in (4, 5, 6, 7))
        self.assertIsNone(kept(2, RINGED))
        self.assertIsNone(kept(2, RINGED, (None, 3)))


class CanBe(unittest.TestCase):
    def check(self, gauges, book, bounds, found):
        told = blame(gauges, book, bounds)
        self.assertEqual(told, plain_blame(found, bounds), (gauges, book, bounds))
        self.assertIs(can_be(gauges, book, bounds), bool(with_bounds(found, bounds)))

    def test_beside_all_readings_of_boxes(self):
        random = Random(40)
        for gauges, book, found, move, size in boxes(seed=40, many=100):
            self.check(gauges, book, (), found)
            for _ in range(12):
                many = random.randint(1, 10)
                bounds = [shifted_bound(made_bound(random, gauges, size + 1), move) for _ in range(many)]
                self.check(gauges, book, tuple(bounds), found)

    def test_none_and_no_bounds(self):
        self.assertIsNone(blame(2, HALVES, ()))
        self.assertIs(can_be(2, HALVES, ()), True)
        self.assertIsNone(blame(2, HALVES, ((0, "least", 4), (1, "least", 2))))

    def test_a_book_that_is_not_keepable(self):
        for book in (RINGED, turning_ring(3)):
            self.assertEqual(blame(2, book, ()), ())
            self.assertEqual(blame(2, book, ((0, "least", 4), (0, "most", 3))), ())
            self.assertIs(can_be(2, book, ()), False)
            self.assertIs(can_be(2, book, ((0, "least", 4),)), False)

    def test_one_is_told_ahead_of_two_and_the_least_of_several(self):
        well, low, high, bad = (1, "most", 0), (0, "most", 1), (0, "least", 2), (0, "least", 5)
        self.assertEqual(blame(2, HALVES, (bad,)), (0,))
        self.assertEqual(blame(2, HALVES, (well, bad)), (1,))
        self.assertEqual(blame(2, HALVES, (low, high, bad)), (2,))
        self.assertEqual(blame(2, HALVES, (low, high, bad, bad)), (2,))
        self.assertEqual(blame(2, HALVES, (bad, well, bad)), (0,))
        self.assertEqual(blame(2, HALVES, (low, high)), (0, 1))
        self.assertEqual(blame(2, HALVES, (well, low, low, high)), (1, 3))
        self.assertEqual(blame(2, HALVES, (high, well, low, low)), (0, 2))
        self.assertEqual(blame(2, HALVES, ((1, "most", 9), high, low, high)), (1, 2))

    def test_the_same_bound_twice(self):
        bad, well = (0, "least", 5), (0, "least", 4)
        self.assertEqual(blame(2, HALVES, (bad, bad)), (0,))
        self.assertIsNone(blame(2, HALVES, (well, well)))
        self.assertIs(can_be(2, HALVES, (well, well)), True)
        self.assertEqual(blame(2, HALVES, (well, well, (1, "most", 1))), (0, 2))

    def test_two_that_cannot_be_together_by_a_gap(self):
        self.assertEqual(blame(2, GAPPED, ((0, "least", 4), (0, "most", 7))), (0, 1))
        self.assertIsNone(blame(2, GAPPED, ((0, "least", 4), (0, "most", 8))))
        self.assertEqual(blame(2, GAPPED, ((1, "most", 9), (0, "least", 4))), (0, 1))
        self.assertIsNone(blame(2, GAPPED, ((1, "most", 9), (0, "least", 3))))

    def test_open_books_each_shown_by_itself(self):
        random = Random(41)
        told = {}
        for gauges, book in open_books(seed=41, many=150):
            bounds = tuple(made_bound(random, gauges, 10 ** 12) for _ in range(random.randint(0, 6)))
            found = blame(gauges, book, bounds)
            self.assertIs(can_be(gauges, book, bounds), found is None)
            self.assertEqual(is_kept(gauges, (*book, *[("bound", bound) for bound in bounds])), found is None)
            told[None if found is None else len(found)] = True
            if found is not None:
                self.check_blame(gauges, book, bounds, found)
        self.assertEqual(len(told), 4)

    def check_blame(self, gauges, book, bounds, found):
        self.assertFalse(is_kept(gauges, (*book, *[("bound", bounds[index]) for index in found])))
        self.assertEqual(found == (), not is_kept(gauges, book))
        if len(found) == 1:
            for bound in bounds[:found[0]]:
                self.assertTrue(is_kept(gauges, (*book, ("bound", bound))))
        if len(found) == 2:
            for bound in bounds:
                self.assertTrue(is_kept(gauges, (*book, ("bound", bound))))
            pairs = [(i, j) for j in range(len(bounds)) for i in range(j) if (i, j) < found]
            for one, other in pairs:
                self.assertTrue(is_kept(gauges, (*book, ("bound", bounds[one]), ("bound", bounds[other]))))

    def test_far_bounds(self):
        self.assertIsNone(blame(2, GAPPED, ((0, "least", BIG), (1, "least", BIG))))
        self.assertEqual(blame(2, GAPPED, ((0, "least", BIG), (1, "most", BIG - 1))), (0, 1))
        self.assertEqual(blame(2, HALVES, ((1, "least", BIG), (0, "least", -BIG), (0, "least", BIG))), (2,))


if __name__ == "__main__":
    unittest.main()
