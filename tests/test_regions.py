"""[15]: regions."""

import unittest
from itertools import product
from random import Random

from middlegauges.books import covered, essence, learned
from middlegauges.errors import (
    InvalidBook, InvalidChoice, InvalidCount, InvalidGauge, InvalidMove, InvalidReadings, InvalidRule, Unkeepable)
from middlegauges.keeping import kept
from middlegauges.regions import Region
from middlegauges.watches import Watch

from tests.boxes import boxes, cornered_boxes, is_kept, open_books
from tests.plainly import all_middles, plain_covered, plain_essence, plain_span, shifted_rule, with_part
from tests.samples import (
    ALL_KINDS, BIG, RIGHT_RULES, WRONG_BOOKS, WRONG_CHOICES, WRONG_COUNTS, WRONG_GAUGES, WRONG_PARTS, WRONG_READINGS,
    WRONG_RULES, WRONG_SEEN, kept_in_box, made_rule, rule_is_kept)

HALVES = (("sum", 0, 1, "most", 7), ("apart", 0, 1, 2))
GAPPED = (("either", (0, "most", 3), (1, "least", 10)), ("either", (0, "most", 3), (0, "least", 8)),
          ("apart", 0, 1, 0))
RINGED = (("apart", 0, 1, -2), ("apart", 1, 0, 1))
EMPTY = (("bound", (0, "least", 1)), ("bound", (0, "most", 0)))

LISTED = ("__init__", "gauges", "rules", "of", "seen_in", "__len__", "__getitem__", "__contains__", "__bool__",
          "__call__", "__and__", "__add__", "__neg__", "__le__", "__lt__", "__eq__", "covered", "essence")

# No region of two gauges.
NO_REGIONS = (None, True, 5, "a >= 5", (), RIGHT_RULES, [], [Region(2)], (2, RIGHT_RULES), Region(1),
              Region(3, *HALVES), Watch(2, HALVES), InvalidCount("an object"), Region)


def boxes_with_shifts(seed, many):
    """Boxes, some of them with many corners."""
    return boxes(seed, many) + cornered_boxes(seed + 1, many // 2)


def box_rules(gauges, low, high):
    """The rules by which each gauge shows a number from low to high."""
    return [("bound", (gauge, way, end)) for gauge in range(gauges) for way, end in (("least", low), ("most", high))]


def turned_bound(bound):
    gauge, way, number = bound
    return (gauge, "least" if way == "most" else "most", -number)


def turned_rule(rule):
    """[15] -a, line by line."""
    if rule[0] in ("bound", "either"):
        return (rule[0], *map(turned_bound, rule[1:]))
    if rule[0] == "apart":
        return ("apart", rule[2], rule[1], rule[3])
    return ("sum", rule[1], rule[2], "least" if rule[3] == "most" else "most", -rule[4])


class Making(unittest.TestCase):
    def check(self, region, gauges, rules):
        self.assertIs(type(region), Region)
        self.assertEqual((region.gauges, region.rules, len(region)), (gauges, rules, len(rules)))
        self.assertIs(type(region.rules), tuple)

    def test_by_its_class(self):
        self.check(Region(3), 3, ())
        self.check(Region(gauges=1), 1, ())
        self.check(Region(2, *RIGHT_RULES), 2, RIGHT_RULES)
        self.check(Region(2, HALVES[0]), 2, HALVES[:1])
        self.check(Region(2, HALVES[0], HALVES[0], HALVES[1]), 2, (HALVES[0], *HALVES))

    def test_of_a_book(self):
        for book in ((), HALVES, RIGHT_RULES, RINGED):
            for region in (Region.of(2, book), Region.of(book=book, gauges=2), Region.of(2, book=book)):
                self.check(region, 2, book)
        self.check(Region(1).of(2, HALVES), 2, HALVES)

    def test_seen_in(self):
        for seen in ([(0, 9), (4, 5), (7, 1)], [(3, 3)], [(10 ** 12 - 1, 5)] * 3):
            for region in (Region.seen_in(2, seen), Region.seen_in(seen=seen, gauges=2)):
                self.check(region, 2, learned(2, seen))

    def test_what_is_listed_is_defined_in_the_class(self):
        for name in LISTED:
            self.assertIn(name, vars(Region))
        for name in ("gauges", "rules"):
            self.assertIsInstance(vars(Region)[name], property)
        for name in ("of", "seen_in"):
            self.assertIsInstance(vars(Region)[name], staticmethod)
        self.assertEqual(Region.__module__, "middlegauges.regions")

    def test_counts(self):
        for wrong in WRONG_COUNTS:
            for make in (lambda: Region(wrong), lambda: Region(gauges=wrong), lambda: Region(wrong, *HALVES),
                         lambda: Region(wrong, None), lambda: Region.of(wrong, HALVES), lambda: Region.of(wrong, None),
                         lambda: Region.seen_in(wrong, [(1, 2)]), lambda: Region.seen_in(wrong, None)):
                with self.assertRaises(InvalidCount):
                    make()

    def test_rules_that_are_none(self):
        for wrong in WRONG_RULES:
            for rules in ((wrong,), (*RIGHT_RULES, wrong), (wrong, *RIGHT_RULES), (HALVES[0], wrong, HALVES[1])):
                with self.assertRaises(InvalidRule):
                    Region(2, *rules)
        with self.assertRaises(InvalidRule):
            Region(2, HALVES)
        with self.assertRaises(InvalidRule):
            Region(1, *HALVES)

    def test_books_and_seen_readings_that_are_none(self):
        for wrong in (*WRONG_BOOKS, list(HALVES), Region(2, *HALVES)):
            with self.assertRaises(InvalidBook):
                Region.of(2, wrong)
        for wrong in (*WRONG_SEEN, Region(2, *HALVES)):
            with self.assertRaises(InvalidChoice):
                Region.seen_in(2, wrong)

    def test_they_do_not_change(self):
        region = Region(2, *HALVES)
        for name in ("gauges", "rules"):
            with self.assertRaises(AttributeError):
                setattr(region, name, 1)
        with self.assertRaises(TypeError):
            region[0] = (1, 2, ())

    def test_seen_readings_may_be_changed_later(self):
        seen = [(0, 9), (4, 5)]
        region = Region.seen_in(2, seen)
        seen.append((50, 50))
        self.check(region, 2, learned(2, [(0, 9), (4, 5)]))

    def test_they_are_not_iterated_over(self):
        for region in (Region(2), Region(2, *HALVES), Region(2, *RINGED)):
            for go_over in (iter, list, tuple, sorted, max, lambda it: [*it], lambda it: [one for one in it]):
                with self.assertRaises(TypeError):
                    go_over(region)

    def test_they_are_no_keys(self):
        for region in (Region(2), Region(2, *HALVES)):
            for use in (hash, lambda it: {it: 1}, lambda it: {it}, lambda it: {(1, it): 1}):
                with self.assertRaises(TypeError):
                    use(region)


class Asking(unittest.TestCase):
    def test_spans_and_truth_beside_all_readings_of_boxes(self):
        for gauges, book, found, _, _ in boxes_with_shifts(seed=101, many=100):
            region = Region(gauges, *book)
            self.assertIs(bool(region), len(found) > 0)
            for gauge in range(gauges):
                if found:
                    self.assertEqual(region[gauge], plain_span(found, gauge))
                else:
                    with self.assertRaises(Unkeepable):
                        region[gauge]

    def test_readings_beside_all_readings_of_boxes(self):
        random = Random(102)
        for gauges, book, found, move, size in boxes_with_shifts(seed=102, many=60):
            region, members = Region(gauges, *book), set(found)
            asked = random.sample(found, min(9, len(found)))
            asked += [tuple(random.randint(-size - 1, size + 1) + by for by in move) for _ in range(20)]
            for readings in asked:
                self.assertIs(readings in region, readings in members)
                self.assertIs(readings not in region, readings not in members)

    def test_no_other_value_is_in_a_region(self):
        for region in (Region(2), Region(2, *HALVES), Region(2, *RINGED)):
            for value in (*WRONG_READINGS, *NO_REGIONS, region, Region, [4, 3], (4, 3, 0), (4,), (True, 3), (4, None)):
                self.assertIs(value in region, False)
        self.assertIs((4, 3) in Region(2, *HALVES), True)
        self.assertIs((BIG, -BIG) in Region(2), True)
        self.assertIs((5, 3) in Region(2, *HALVES), False)
        self.assertIs((0, 0) in Region(2, *RINGED), False)

    def test_spans_of_the_examples(self):
        self.assertEqual(Region(2, *HALVES)[0], (None, 4, ()))
        self.assertEqual(Region(2, *HALVES)[1], (None, None, ()))
        self.assertEqual(Region(2, *GAPPED)[0], (None, None, ((3, 8),)))
        self.assertEqual(Region(5)[4], (None, None, ()))

    def test_gauges_that_are_none(self):
        for book in (HALVES, GAPPED, RINGED, EMPTY, ()):
            for wrong in (*WRONG_GAUGES, Region(2)):
                with self.assertRaises(InvalidGauge):
                    Region(2, *book)[wrong]

    def test_no_readings(self):
        for book in (RINGED, EMPTY):
            for gauge in (0, 1):
                with self.assertRaises(Unkeepable):
                    Region(2, *book)[gauge]
            self.assertIs(bool(Region(2, *book)), False)
            self.assertIsNone(Region(2, *book)())
        # It has readings, though it has no rules.
        self.assertIs(bool(Region(2)), True)
        self.assertEqual(len(Region(2)), 0)

    def test_parts_beside_all_readings_of_boxes(self):
        random = Random(103)
        for gauges, book, found, move, size in boxes_with_shifts(seed=103, many=60):
            region = Region(gauges, *book)
            parts = [None, (None,) * gauges, *random.sample(found, min(3, len(found)))]
            for _ in range(8):
                near = random.choice(found) if found else move
                parts.append(tuple(random.choice((None, None, shown, shown + random.randint(-2, 2))) for shown in near))
            for part in parts:
                fit = found if part is None else with_part(found, part)
                for told in (region(part), region(part=part)):
                    self.assertEqual(told, kept(gauges, book, part))
                    if fit:
                        self.assertIn(told, fit)
                    else:
                        self.assertIsNone(told)
            self.assertEqual(region(), region(None))

    def test_parts_that_are_none(self):
        for book in (HALVES, RINGED):
            for wrong in WRONG_PARTS:
                with self.assertRaises(InvalidReadings):
                    Region(2, *book)(wrong)
                with self.assertRaises(InvalidReadings):
                    Region(2, *book)(part=wrong)

    def test_regions_that_are_alike_have_the_same_first_readings(self):
        for gauges, book, found, _, _ in boxes_with_shifts(seed=104, many=30):
            one, other = Region(gauges, *book), Region(gauges, *reversed(book), *book[:2])
            self.assertTrue(one == other)
            self.assertEqual(one(), other())


class Joining(unittest.TestCase):
    def test_beside_all_readings_of_boxes(self):
        random = Random(111)
        for gauges, book, found, move, size in boxes_with_shifts(seed=111, many=60):
            more = [made_rule(random, gauges, size, ALL_KINDS) for _ in range(random.randint(0, 3))]
            more = tuple(shifted_rule(rule, move) for rule in more)
            one, other = Region(gauges, *book), Region(gauges, *more)
            for joined, rules in ((one & other, book + more), (other & one, more + book), (one & one, book + book)):
                self.assertIs(type(joined), Region)
                self.assertEqual((joined.gauges, joined.rules), (gauges, rules))
            both = [readings for readings in found if all(rule_is_kept(rule, readings) for rule in more)]
            self.assertIs(bool(one & other), len(both) > 0)
            self.assertTrue(all(readings in one & other for readings in both))
            self.assertEqual((one.rules, other.rules), (book, more))

    def test_no_regions(self):
        for region in (Region(2), Region(2, *HALVES), Region(2, *RINGED)):
            for value in NO_REGIONS:
                with self.assertRaises(InvalidBook):
                    region & value

    def test_on_a_second_name(self):
        first = second = Region(2, *HALVES)
        second &= Region(2, *GAPPED)
        self.assertEqual(second.rules, HALVES + GAPPED)
        self.assertEqual(first.rules, HALVES)
        self.assertIsNot(first, second)
        with self.assertRaises(InvalidBook):
            second &= GAPPED
        self.assertEqual(second.rules, HALVES + GAPPED)


class Moving(unittest.TestCase):
    def test_rule_by_rule(self):
        region = Region(
            3, ("bound", (1, "least", 5)), ("apart", 2, 0, 7), ("sum", 0, 1, "most", -3), ("sum", 1, 2, "least", 0),
            ("either", (0, "most", 3), (2, "least", 10)), ("either", (1, "most", 0), (1, "least", 8)))
        moved = region + (100, 20, 3)
        self.assertEqual(moved.rules, (
            ("bound", (1, "least", 25)), ("apart", 2, 0, -90), ("sum", 0, 1, "most", 117), ("sum", 1, 2, "least", 23),
            ("either", (0, "most", 103), (2, "least", 13)), ("either", (1, "most", 20), (1, "least", 28))))
        self.assertEqual((-region).rules, (
            ("bound", (1, "most", -5)), ("apart", 0, 2, 7), ("sum", 0, 1, "least", 3), ("sum", 1, 2, "most", 0),
            ("either", (0, "least", -3), (2, "most", -10)), ("either", (1, "least", 0), (1, "most", -8))))

    def test_moved_beside_all_readings_of_boxes(self):
        random = Random(121)
        for gauges, book, found, _, size in boxes_with_shifts(seed=121, many=60):
            move = tuple(random.choice((0, 1, -1, 10 ** 12, random.randint(-BIG, BIG))) for _ in range(gauges))
            region = Region(gauges, *book)
            moved = region + move
            self.assertEqual((moved.gauges, moved.rules), (gauges, tuple(shifted_rule(rule, move) for rule in book)))
            self.assertEqual(region.rules, book)
            for readings in random.sample(found, min(6, len(found))):
                self.assertIn(tuple(shown + by for shown, by in zip(readings, move)), moved)
            self.check_back(region, moved, move, found)

    def check_back(self, region, moved, move, found):
        self.assertIs(bool(moved), len(found) > 0)
        back = moved + tuple(-by for by in move)
        self.assertEqual(back.rules, region.rules)
        if found:
            self.assertIn(tuple(shown - by for shown, by in zip(moved(), move)), found)

    def test_turned_beside_all_readings_of_boxes(self):
        for gauges, book, found, _, _ in boxes_with_shifts(seed=122, many=60):
            region = Region(gauges, *book)
            turned = -region
            self.assertIs(type(turned), Region)
            self.assertEqual((turned.gauges, turned.rules), (gauges, tuple(map(turned_rule, book))))
            self.assertEqual((region.rules, (-turned).rules), (book, book))
            self.assertIs(bool(turned), len(found) > 0)
            self.assertTrue(all(tuple(-shown for shown in readings) in turned for readings in found[:20]))
            if found:
                self.assertIn(tuple(-shown for shown in turned()), found)
                self.assertTrue((-turned) == region)

    def test_moves_that_are_none(self):
        for book in ((), HALVES, RINGED):
            for wrong in (*WRONG_READINGS, *NO_REGIONS, Region(2), (1.0, 2)):
                with self.assertRaises(InvalidMove):
                    Region(2, *book) + wrong

    def test_on_a_second_name(self):
        first = second = Region(2, *HALVES)
        second += (1, 10)
        self.assertEqual(second.rules, (("sum", 0, 1, "most", 18), ("apart", 0, 1, -7)))
        self.assertEqual(first.rules, HALVES)
        with self.assertRaises(InvalidMove):
            second += (1,)
        self.assertEqual(second.rules, (("sum", 0, 1, "most", 18), ("apart", 0, 1, -7)))

    def test_no_rules(self):
        self.assertEqual((Region(4) + (1, 2, 3, 4)).rules, ())
        self.assertEqual((-Region(4)).rules, ())


class Comparing(unittest.TestCase):
    def check(self, one, other, its, others):
        """Two regions beside their readings."""
        within, around = set(its) <= set(others), set(others) <= set(its)
        self.assertIs(one <= other, within)
        self.assertIs(other >= one, within)
        self.assertIs(one < other, within and not around)
        self.assertIs(other > one, within and not around)
        self.assertIs(one == other, within and around)
        self.assertIs(one != other, not (within and around))
        return (within, around)

    def test_beside_all_readings_of_boxes(self):
        random = Random(131)
        told = {}
        for gauges, book, found, move, size in boxes_with_shifts(seed=131, many=80):
            one = Region(gauges, *book)
            for _ in range(5):
                rule = shifted_rule(made_rule(random, gauges, size + 1, ALL_KINDS), move)
                other = Region(gauges, *random.sample(book, len(book)), rule)
                others = [readings for readings in found if rule_is_kept(rule, readings)]
                key = self.check(one, other, found, others)
                self.check(other, one, others, found)
                told[key] = told.get(key, 0) + 1
            if found:
                self.check(one, one.essence(), found, found)
        self.assertTrue(told[(True, True)] > 50 and told[(False, True)] > 50, told)

    def test_boxes_that_overlap(self):
        random = Random(132)
        pairs = list(product(((-2, 3), (0, 4), (-2, 4), (5, 5), (4, -4)), repeat=2))
        for gauges in (1, 2):
            for (low, high), (other_low, other_high) in pairs:
                rules = [made_rule(random, gauges, 6, ALL_KINDS) for _ in range(random.randint(0, 2))]
                one = box_rules(gauges, low, high)
                other = box_rules(gauges, other_low, other_high) + rules
                self.check(Region(gauges, *one), Region(gauges, *other), kept_in_box(gauges, one, -8, 8),
                           kept_in_box(gauges, other, -8, 8))

    def test_open_books_each_shown_by_itself(self):
        random = Random(133)
        told = {True: 0, False: 0}
        for gauges, book in open_books(seed=133, many=100):
            one = Region(gauges, *book)
            changed = [rule if random.random() < 0.8 else made_rule(random, gauges, 9, ALL_KINDS) for rule in book]
            other = Region(gauges, *changed)
            both = one & other
            self.assertTrue(both <= one and both <= other)
            self.assertIs(one <= other, both == one)
            self.assertIs(one == other, one <= other and other <= one)
            self.assertIs(one < other, one <= other and one != other)
            self.assertIs(bool(one), is_kept(gauges, book))
            told[one <= other] += 1
        self.assertGreater(min(told.values()), 20)

    def test_regions_without_readings(self):
        for one, other in product((Region(2, *RINGED), Region(2, *EMPTY)), repeat=2):
            self.check(one, other, [], [])
            self.check(one, Region(2), [], [(0, 0)])
            self.check(Region(2, *HALVES), other, [(0, 0)], [])
        self.assertIs(Region(2, *RINGED) == Region(1, *EMPTY), False)

    def test_alike_and_moved_by_one(self):
        one = Region(2, *HALVES)
        self.assertTrue(one == Region(2, *HALVES[::-1]) and one == Region(2, *HALVES, *HALVES))
        self.assertTrue(one == Region(2, *HALVES, ("bound", (0, "most", 4))))
        self.assertTrue(one != Region(2, *HALVES, ("bound", (0, "most", 3))))
        self.assertTrue(one != one + (0, 1) and one == one + (0, 0))
        self.assertTrue(Region(2) == Region(2) and Region(2) != Region(3))

    def test_unlike_any_other_value(self):
        for region in (Region(2), Region(2, *HALVES), Region(2, *RINGED)):
            for value in (*NO_REGIONS, HALVES, RINGED, (2, *HALVES)):
                self.assertIs(region == value, False)
                self.assertIs(region != value, True)
                self.assertIs(value == region, False)
            self.assertNotIn(region, NO_REGIONS)
            self.assertIn(region, [None, region])

    def test_no_regions(self):
        for region in (Region(2), Region(2, *HALVES), Region(2, *RINGED)):
            for value in NO_REGIONS:
                with self.assertRaises(InvalidBook):
                    region <= value
                with self.assertRaises(InvalidBook):
                    region < value


class Others(unittest.TestCase):
    def test_beside_all_readings_of_boxes(self):
        random = Random(141)
        for gauges, book, found, _, _ in boxes_with_shifts(seed=141, many=40):
            region = Region(gauges, *book)
            open_gauges = tuple(sorted(random.sample(range(gauges), random.randint(1, gauges))))
            told = region.covered(open_gauges)
            self.assertIs(type(told), Region)
            self.assertEqual(told.rules, region.covered(open_gauges=open_gauges).rules)
            if found:
                self.assertEqual((told.gauges, told.rules), plain_covered(found, open_gauges))
                self.assertEqual(region.essence().rules, plain_essence(found))
                self.assertEqual(region.essence().gauges, gauges)
                self.assertTrue(region.essence() == region)
            else:
                self.assertEqual((told.gauges, told.rules), (len(open_gauges), EMPTY))
                with self.assertRaises(Unkeepable):
                    region.essence()

    def test_open_books_beside_the_functions(self):
        for gauges, book in open_books(seed=142, many=80):
            region = Region(gauges, *book)
            for open_gauges in ((0,), tuple(range(gauges)), (gauges - 1,)):
                told = region.covered(open_gauges)
                self.assertEqual((told.gauges, told.rules), covered(gauges, book, open_gauges))
            if region:
                self.assertEqual(region.essence().rules, essence(gauges, book))
                self.assertEqual(region.essence().essence().rules, essence(gauges, book))

    def test_examples(self):
        told = Region(2, *HALVES).covered((0,))
        self.assertEqual((told.gauges, told.rules), (1, (("bound", (0, "most", 4)),)))
        with self.assertRaises(Unkeepable):
            Region(2, *RINGED).essence()
        self.assertEqual(Region(3, *EMPTY).covered((1, 2)).rules, EMPTY)

    def test_open_gauges_that_are_none(self):
        for book in (HALVES, RINGED):
            for wrong in WRONG_CHOICES:
                with self.assertRaises(InvalidChoice):
                    Region(2, *book).covered(wrong)
                with self.assertRaises(InvalidChoice):
                    Region(2, *book).covered(open_gauges=wrong)

    def test_seen_readings_and_their_middles_are_in_it(self):
        random = Random(143)
        for turn in range(40):
            gauges = 1 + turn % 3
            seen = [tuple(random.randint(-3, 3) for _ in range(gauges)) for _ in range(random.randint(1, 6))]
            region, members = Region.seen_in(gauges, seen), all_middles(seen)
            inside = [readings for readings in product(range(-4, 5), repeat=gauges) if readings in region]
            self.assertEqual(inside, members)

    def test_regions_of_what_regions_returned(self):
        random = Random(144)
        for turn in range(12):
            gauges = 2 + turn % 4
            seen = [tuple(random.randint(-10 ** 12, 10 ** 12) for _ in range(gauges)) for _ in range(12)]
            region = Region.seen_in(gauges, seen)
            moved = -(region + seen[0]) + seen[1]
            joined = region & moved & region.essence()
            self.assertTrue(joined <= region and joined <= moved)
            self.assertTrue(all(readings in region for readings in seen))
            again = Region.of(gauges, joined.rules)
            self.assertTrue(again == joined and (not joined or again.essence() == joined))
            self.assertTrue(region.covered((0, 1)) == Region.seen_in(2, [readings[:2] for readings in seen]))


if __name__ == "__main__":
    unittest.main()
