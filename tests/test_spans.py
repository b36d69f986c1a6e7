"""[12]: span, shows, nearest."""

import unittest

from middlegauges.errors import InvalidGauge, InvalidNumber, Unkeepable
from middlegauges.keeping import keepable
from middlegauges.spans import nearest, shows, span

from tests.boxes import boxes, is_kept, open_books
from tests.plainly import plain_nearest, plain_span
from tests.samples import BIG

HALVES = (("sum", 0, 1, "most", 7), ("apart", 0, 1, 2))
GAPPED = (("either", (0, "most", 3), (1, "least", 10)), ("either", (0, "most", 3), (0, "least", 8)),
          ("apart", 0, 1, 0))
RINGED = (("apart", 0, 1, -2), ("apart", 1, 0, 1))
ODD = (("apart", 0, 1, 0), ("apart", 1, 0, 0), ("sum", 0, 1, "most", 3), ("sum", 0, 1, "least", 3))


def gap(gauge, p, q):
    return ("either", (gauge, "most", p), (gauge, "least", q))


def pins(gauge, low, high):
    """The rules by which a gauge shows a number from low to high."""
    return (("bound", (gauge, "least", low)), ("bound", (gauge, "most", high)))


class Boxes(unittest.TestCase):
    def test_beside_all_readings_of_boxes(self):
        gaps = 0
        for gauges, book, found, move, size in boxes(seed=51, many=150):
            for gauge in range(gauges):
                if not found:
                    self.check_unkeepable(gauges, book, gauge)
                    continue
                told = span(gauges, book, gauge)
                self.assertEqual(told, plain_span(found, gauge), (gauges, book, gauge))
                gaps += len(told[2])
                for number in range(move[gauge] - size - 2, move[gauge] + size + 3):
                    self.check_number(gauges, book, gauge, number, found)
        self.assertGreater(gaps, 25)

    def check_number(self, gauges, book, gauge, number, found):
        self.assertEqual(nearest(gauges, book, gauge, number), plain_nearest(found, gauge, number))
        self.assertIs(shows(gauges, book, gauge, number), any(readings[gauge] == number for readings in found))

    def check_unkeepable(self, gauges, book, gauge):
        for call in (lambda: span(gauges, book, gauge), lambda: shows(gauges, book, gauge, 0),
                     lambda: nearest(gauges, book, gauge, 0)):
            with self.assertRaises(Unkeepable):
                call()


class Open(unittest.TestCase):
    """Without a box: each end is reached by readings and none goes beyond, which a paper shows."""

    def test_ends_and_gaps_each_shown_by_itself(self):
        self.ends, self.gaps = 0, 0
        for gauges, book in open_books(seed=52, many=160):
            if not keepable(gauges, book):
                continue
            for gauge in range(gauges):
                told = span(gauges, book, gauge)
                self.check_end(gauges, book, gauge, "least", told[0], -1)
                self.check_end(gauges, book, gauge, "most", told[1], 1)
                self.check_gaps(gauges, book, gauge, told)
        self.assertGreater(self.ends, 100)
        self.assertGreater(self.gaps, 15)

    def check_end(self, gauges, book, gauge, way, end, out):
        turned = {"least": "most", "most": "least"}[way]
        if end is None:
            self.assertTrue(is_kept(gauges, (*book, ("bound", (gauge, turned, out * BIG)))))
            return
        self.ends += 1
        self.assertTrue(is_kept(gauges, book + pins(gauge, end, end)))
        self.assertFalse(is_kept(gauges, (*book, ("bound", (gauge, turned, end + out)))))

    def check_gaps(self, gauges, book, gauge, told):
        least, greatest, gaps = told
        self.assertEqual(list(gaps), sorted(gaps))
        for p, q in gaps:
            self.gaps += 1
            self.assertGreaterEqual(q, p + 2)
            self.assertTrue(least is None or least <= p)
            self.assertTrue(greatest is None or q <= greatest)
            self.assertTrue(is_kept(gauges, book + pins(gauge, p, p)))
            self.assertTrue(is_kept(gauges, book + pins(gauge, q, q)))
            self.assertFalse(is_kept(gauges, book + pins(gauge, p + 1, q - 1)))
            for number in (p, p + 1, (p + q) // 2, q - 1, q):
                self.assertIs(shows(gauges, book, gauge, number), number in (p, q))
                beside = (number, number) if number in (p, q) else (p, q)
                self.assertEqual(nearest(gauges, book, gauge, number), beside)
        for number in (0, 10 ** 12, -10 ** 12):
            self.assertEqual(shows(gauges, book, gauge, number), is_kept(gauges, book + pins(gauge, number, number)))


class Span(unittest.TestCase):
    def test_examples(self):
        self.assertEqual(span(2, HALVES, 0), (None, 4, ()))
        self.assertEqual(span(2, HALVES, 1), (None, None, ()))
        self.assertEqual(span(2, GAPPED, 0), (None, None, ((3, 8),)))
        self.assertEqual(span(2, GAPPED, 1), (None, None, ()))

    def test_no_rules(self):
        for gauges in range(1, 6):
            for gauge in range(gauges):
                self.assertEqual(span(gauges, (), gauge), (None, None, ()))

    def test_one_end(self):
        self.assertEqual(span(1, (("bound", (0, "least", 5)),), 0), (5, None, ()))
        self.assertEqual(span(1, (("bound", (0, "most", -5)),), 0), (None, -5, ()))
        self.assertEqual(span(1, pins(0, 5, 5), 0), (5, 5, ()))
        self.assertEqual(span(3, pins(2, -10 ** 12, 10 ** 12), 2), (-10 ** 12, 10 ** 12, ()))

    def test_several_gaps_and_neighbouring_ones(self):
        book = (gap(0, 20, 30), gap(0, 3, 5), gap(0, 5, 8))
        self.assertEqual(span(1, book, 0), (None, None, ((3, 5), (5, 8), (20, 30))))
        self.assertEqual(span(1, (*book, gap(0, 4, 6)), 0), (None, None, ((3, 8), (20, 30))))
        self.assertEqual(span(1, (*book, gap(0, 7, 25)), 0), (None, None, ((3, 5), (5, 30))))
        self.assertEqual(span(1, (gap(0, 3, 6), gap(0, 5, 8)), 0), (None, None, ((3, 8),)))
        self.assertEqual(span(1, (gap(0, 3, 5), gap(0, 4, 6)), 0), (None, None, ((3, 6),)))
        self.assertEqual(span(1, (gap(0, 3, 9), gap(0, 5, 7)), 0), (None, None, ((3, 9),)))

    def test_what_leaves_no_gap(self):
        for p, q in ((3, 4), (3, 3), (5, 3)):
            self.assertEqual(span(1, (gap(0, p, q),), 0), (None, None, ()))

    def test_an_end_that_is_a_half(self):
        for total, least in ((9, 5), (8, 4), (-9, -4), (-8, -4), (10 ** 12 - 1, 5 * 10 ** 11)):
            self.assertEqual(span(2, (("sum", 0, 1, "least", total), ("apart", 1, 0, 0)), 0)[0], least)
        for total, greatest in ((9, 4), (8, 4), (-9, -5), (-8, -4), (10 ** 12 - 1, 5 * 10 ** 11 - 1)):
            self.assertEqual(span(2, (("sum", 0, 1, "most", total), ("apart", 0, 1, 0)), 0)[1], greatest)

    def test_a_half_moves_the_ends_of_other_gauges(self):
        book = (*HALVES, ("apart", 2, 0, 10), ("sum", 0, 3, "least", 1))
        self.assertEqual(span(4, book, 2), (None, 14, ()))
        self.assertEqual(span(4, book, 3), (-3, None, ()))

    def test_an_end_moved_out_of_a_gap(self):
        self.assertEqual(span(1, (gap(0, 3, 8), ("bound", (0, "most", 7))), 0), (None, 3, ()))
        self.assertEqual(span(1, (gap(0, 3, 8), ("bound", (0, "least", 4))), 0), (8, None, ()))
        self.assertEqual(span(1, (gap(0, 3, 8), gap(0, 8, 11), ("bound", (0, "least", 4))), 0), (8, None, ((8, 11),)))
        self.assertEqual(span(2, (*HALVES, gap(0, 1, 5)), 0), (None, 1, ()))
        self.assertEqual(span(1, (gap(0, 3, 8), ("bound", (0, "most", 3))), 0), (None, 3, ()))
        self.assertEqual(span(1, (gap(0, 3, 8), ("bound", (0, "most", 8))), 0), (None, 8, ((3, 8),)))

    def test_a_gap_handed_on_from_another_gauge(self):
        book = (gap(0, 3, 8), ("apart", 0, 1, 1), ("apart", 1, 0, -1),
                ("sum", 1, 2, "least", 20), ("sum", 1, 2, "most", 20))
        self.assertEqual(span(3, book, 1), (None, None, ((2, 7),)))
        self.assertEqual(span(3, book, 2), (None, None, ((13, 18),)))
        loose = (gap(0, 3, 8), ("apart", 0, 1, 1), ("apart", 1, 0, 0))
        self.assertEqual(span(2, loose, 1), (None, None, ((3, 7),)))

    def test_what_is_beyond_the_ends_is_no_gap(self):
        book = (gap(0, 3, 8), gap(0, 20, 30), ("bound", (0, "least", 9)), ("bound", (0, "most", 19)))
        self.assertEqual(span(1, book, 0), (9, 19, ()))
        self.assertEqual(span(1, (gap(0, 3, 8), gap(0, 20, 30), *pins(0, 8, 20)), 0), (8, 20, ()))
        self.assertEqual(span(1, (gap(0, 3, 8), gap(0, 20, 30), *pins(0, 3, 30)), 0), (3, 30, ((3, 8), (20, 30))))


class Nearest(unittest.TestCase):
    BOOK = (gap(0, 3, 5), gap(0, 5, 9), *pins(0, 1, 11))

    def test_at_within_and_beside_gaps_and_ends(self):
        wanted = {-BIG: (None, 1), -1: (None, 1), 0: (None, 1), 1: (1, 1), 2: (2, 2), 3: (3, 3), 4: (3, 5),
                  5: (5, 5), 6: (5, 9), 7: (5, 9), 8: (5, 9), 9: (9, 9), 10: (10, 10), 11: (11, 11),
                  12: (11, None), BIG: (11, None)}
        for number, beside in wanted.items():
            self.assertEqual(nearest(1, self.BOOK, 0, number), beside)
            self.assertIs(shows(1, self.BOOK, 0, number), beside == (number, number))

    def test_without_ends(self):
        for number in (-BIG, 0, 3, 8, BIG):
            self.assertEqual(nearest(2, GAPPED, 0, number), (number, number))
            self.assertIs(shows(2, GAPPED, 0, number), True)
        for number in (4, 5, 6, 7):
            self.assertEqual(nearest(2, GAPPED, 0, number), (3, 8))
            self.assertIs(shows(2, GAPPED, 0, number), False)

    def test_beside_a_half(self):
        self.assertEqual(nearest(2, HALVES, 0, 4), (4, 4))
        self.assertEqual(nearest(2, HALVES, 0, 5), (4, None))
        self.assertIs(shows(2, HALVES, 0, 5), False)
        self.assertIs(shows(2, HALVES, 0, 4), True)


class Errors(unittest.TestCase):
    def test_unkeepable(self):
        for book in (RINGED, ODD, pins(1, 1, 0)):
            for call in (lambda: span(2, book, 0), lambda: shows(2, book, 1, 5), lambda: nearest(2, book, 0, -5)):
                with self.assertRaises(Unkeepable):
                    call()

    def test_errors_about_parameters_come_first(self):
        for call, error in ((lambda: span(2, RINGED, 2), InvalidGauge),
                            (lambda: shows(2, RINGED, 0, True), InvalidNumber),
                            (lambda: shows(2, RINGED, None, None), InvalidGauge),
                            (lambda: nearest(2, ODD, 0, "5"), InvalidNumber)):
            with self.assertRaises(error):
                call()


if __name__ == "__main__":
    unittest.main()
