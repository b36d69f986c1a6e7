"""Over the whole program: what one part returns is passed to the others, and they are asked beside each other."""

import copy
import unittest
from itertools import combinations, permutations, product
from random import Random

from middlegauges.books import alike, counter, covered, essence, follows, learned, needless, parting
from middlegauges.console import Console
from middlegauges.errors import Contradicted, GaugeError, InvalidCount, InvalidWords, Unkeepable
from middlegauges.following import brought, clash, forced, ring
from middlegauges.keeping import blame, can_be, keepable, kept, paper
from middlegauges.regions import Region
from middlegauges.rules import broken, contrary, holds, is_book, is_bound, is_readings, is_rule, middle
from middlegauges.spans import nearest, shows, span
from middlegauges.stairs import corners, extremes, stair
from middlegauges.watches import StrictWatch, Watch
from middlegauges.words import read_book, read_part, read_rule, write_book, write_part, write_rule

from tests.boxes import boxes, cornered_boxes, is_kept, not_kept_fault, open_books
from tests.grammar import book_place, rule_place
from tests.samples import ALL_KINDS, WAYS, made_rule, ring_fault, rule_is_kept
from tests.test_conventions import PARAMETERS, SIGNATURES, call_by_name, call_by_position, right_arguments

HALVES = (("sum", 0, 1, "most", 7), ("apart", 0, 1, 2))
GAPPED = (("either", (0, "most", 3), (1, "least", 10)), ("either", (0, "most", 3), (0, "least", 8)),
          ("apart", 0, 1, 0))
RINGED = (("apart", 0, 1, -2), ("apart", 1, 0, 1))
EMPTY = (("bound", (0, "least", 1)), ("bound", (0, "most", 0)))

LETTERS = "abcde"


def made_open(seed, many):
    """Keepable open books."""
    return [(gauges, book) for gauges, book in open_books(seed, many) if keepable(gauges, book)]


def seen_by_chance(random, gauges, many, size=10 ** 12 - 1):
    return [tuple(random.randint(-size, size) for _ in range(gauges)) for _ in range(many)]


def told_of(gauges, book):
    """All answers on a keepable book that depend on its kept readings alone."""
    told = [keepable(gauges, book), paper(gauges, book), essence(gauges, book), kept(gauges, book)]
    for gauge in range(gauges):
        told += [span(gauges, book, gauge), nearest(gauges, book, gauge, 3), shows(gauges, book, gauge, 0)]
        told.append(covered(gauges, book, (gauge,)))
    for gauge, other_gauge in permutations(range(gauges), 2):
        told.append(extremes(gauges, book, gauge, other_gauge))
        for way, other_way in product(WAYS, WAYS):
            told.append(corners(gauges, book, gauge, way, other_gauge, other_way))
    return told


def asked_of(region):
    """The same of a region, where it is asked for."""
    return [[region[gauge] for gauge in range(region.gauges)], region.essence().rules, region(), bool(region),
            [region.covered(chosen).rules for chosen in combinations(range(region.gauges), 2)]]


class Objects(unittest.TestCase):
    """Any value may be an object of the package."""

    def objects(self):
        return [Region(2), Region(2, *HALVES), Region(2, *RINGED), Watch(2, HALVES), StrictWatch(2, ()), Console(2, ()),
                InvalidCount("an object"), Contradicted((0, 1)), InvalidWords(3), Region, Watch(2, ()).tell]

    def test_as_each_parameter(self):
        for function, names in SIGNATURES:
            for name in names:
                error = PARAMETERS[name][0]
                for value in self.objects():
                    for wrong in (value, [value], (value,), (value, value), (0, "least", value), ("bound", value)):
                        if error is not None:
                            for call in (call_by_position, call_by_name):
                                with self.assertRaises(error):
                                    call(function, names, {**right_arguments(function, names), name: wrong})

    def test_none_is_a_bound_a_rule_a_book_or_readings(self):
        for function in (is_bound, is_rule, is_book, is_readings):
            for value in self.objects():
                for wrong in (value, (value,), (value, value), (0, "least", value), (value, "least", 5), (0, value, 5),
                              ("bound", value), (value, (0, "least", 5)), ("apart", 0, value, 3)):
                    self.assertIs(function(2, wrong), False)


class PassedOn(unittest.TestCase):
    def books_of(self, gauges, book):
        """Books that are alike, returned by several parts."""
        region = Region.of(gauges, book)
        found = [essence(gauges, book), region.essence().rules, (region & region.essence()).rules, (-(-region)).rules,
                 covered(gauges, book, tuple(range(gauges)))[1], region.covered(tuple(range(gauges))).rules,
                 Watch(gauges, book).book, tuple(reversed(book))]
        text = write_book(gauges, found[0])
        if book_place(gauges, text) is None:
            found.append(read_book(gauges, text))
        return found

    def test_books_that_were_returned_tell_the_same(self):
        many = 0
        for gauges, book in made_open(seed=201, many=50) + [box[:2] for box in cornered_boxes(202, 16) if box[2]]:
            told, asked = told_of(gauges, book), asked_of(Region(gauges, *book))
            for other in self.books_of(gauges, book):
                self.assertIs(is_book(gauges, other), True)
                self.assertEqual(told_of(gauges, other), told)
                self.assertEqual(asked_of(Region(gauges, *other)), asked)
                self.assertIs(alike(gauges, book, other), True)
                self.assertTrue(Region(gauges, *other) == Region(gauges, *book))
                many += 1
        self.assertGreater(many, 200)

    def test_books_beside_the_rules_that_were_returned(self):
        for gauges, book in made_open(seed=203, many=40):
            whole = essence(gauges, book)
            for rule in whole:
                self.assertTrue(is_rule(gauges, rule) and follows(gauges, book, rule))
                self.assertIsNone(counter(gauges, book, rule))
            longer = (*book, *whole[:2])
            self.assertTrue(set(range(len(book), len(longer))) <= set(needless(gauges, longer)))
            readings = kept(gauges, book)
            self.assertEqual(broken(gauges, whole, readings), [])
            self.assertTrue(all(holds(gauges, rule, readings) for rule in whole))
            self.assertEqual(kept(gauges, whole, readings), readings)
            self.assertEqual(Region(gauges, *book)(readings), readings)
            self.assertIn(readings, Region(gauges, *whole))

    def test_bounds_that_were_returned(self):
        random = Random(204)
        for gauges, book in made_open(seed=204, many=60):
            bound = (random.randrange(gauges), random.choice(WAYS), random.randint(-10 ** 12, 10 ** 12))
            come = brought(gauges, book, (bound,))
            self.assertEqual(come is None, clash(gauges, book, bound) is not None)
            if come is None:
                self.assertIs(can_be(gauges, book, (bound,)), False)
                continue
            self.assertEqual(brought(gauges, book, tuple(come)), come)
            self.assertIs(can_be(gauges, book, tuple(come)), can_be(gauges, book, (bound,)))
            for other in come:
                self.assertTrue(follows(gauges, book, ("either", contrary(gauges, bound), other)))
                for rule in book:
                    self.assertTrue(all(is_bound(gauges, one) for one in forced(gauges, rule, other)))
            watch = Watch(gauges, book)
            watch.tell(*bound)
            self.assertEqual([other for other in come if watch.tell(*other)], [])

    def test_papers_of_books_that_were_returned(self):
        ringed, halves = Region(2, *RINGED), Region(2, *HALVES)
        apart = halves & -halves + (20, 20)
        for region in (ringed, -ringed, ringed + (7, -9), ringed & halves, apart, ringed.covered((1,)),
                       Region(2, *EMPTY)):
            gauges, book = region.gauges, region.rules
            self.assertIs(keepable(gauges, book), False)
            self.assertIsNone(not_kept_fault(gauges, book))
            found = ring(gauges, book)
            if found is not None:
                self.assertIsNone(ring_fault(book, found))
                self.assertEqual(clash(gauges, book, found[0]), ("ring", found))
        for seed in (205, 206):
            for gauges, book in open_books(seed, 40):
                self.assertIs(bool(Region(gauges, *book)), is_kept(gauges, book))

    def test_learned_books(self):
        random = Random(207)
        for gauges, many in ((5, 30), (4, 20), (2, 30), (1, 30), (3, 1)):
            seen = seen_by_chance(random, gauges, many)
            region, book = Region.seen_in(gauges, seen), learned(gauges, seen)
            self.assertEqual(region.rules, book)
            self.assertTrue(all(readings in region and broken(gauges, book, readings) == [] for readings in seen))
            found = middle(gauges, first=seen[0], second=seen[-1], third=seen[many // 2])
            self.assertIn(found, region)
            self.assertEqual(region.essence().rules, book)
            more = Region.seen_in(gauges, seen + [region(), (-region)(), found])
            self.assertTrue(region <= more)
            self.assertIs((-region)() in region, more <= region)
            self.check_watches(random, region, seen)
            self.check_texts(gauges, book)

    def check_watches(self, random, region, seen):
        watch, strict = Watch(region.gauges, region.rules), StrictWatch(region.gauges, region.rules)
        for gauge in random.sample(range(region.gauges), min(3, region.gauges)):
            number = random.choice(seen)[gauge]
            try:
                self.assertEqual(strict.show(gauge, number), watch.show(gauge, number))
            except Contradicted as error:
                watch.show(gauge, number)
                self.assertEqual(error.blamed, watch.blame())
                break
            self.assertIn(watch.readings(), region)
            self.assertEqual(watch.readings()[gauge], number)
            self.assertEqual(watch.readings(), strict.readings())

    def check_texts(self, gauges, book):
        """Rule by rule, as the readers refuse numbers of 13 digits."""
        self.assertEqual(write_book(gauges, book), " and ".join(write_rule(gauges, rule) for rule in book))
        for rule in book:
            text = write_rule(gauges, rule)
            place = rule_place(gauges, text)
            if place is None:
                self.assertEqual(read_rule(gauges, text), rule)
            else:
                with self.assertRaises(InvalidWords) as caught:
                    read_rule(gauges, text)
                self.assertEqual(caught.exception.place, place)

    def test_texts_of_what_regions_return(self):
        for gauges, book in made_open(seed=208, many=30):
            region = Region(gauges, *book)
            readings = region()
            self.assertEqual(write_part(gauges, readings), " ".join(map(str, readings)))
            self.assertEqual(write_part(gauges, (None, *readings[1:])).split(" ")[0], "-")
            for some in (region, -region, region + readings, region.essence(), region & region):
                text = write_book(gauges, some.rules)
                place = book_place(gauges, text)
                if place is None:
                    self.assertEqual(read_book(gauges, text), some.rules)
                    self.assertTrue(Region.of(gauges, read_book(gauges, text)) == some)
                else:
                    with self.assertRaises(InvalidWords) as caught:
                        read_book(gauges, text)
                    self.assertEqual(caught.exception.place, place)
        part = read_part(3, "- 5 -3")
        self.assertEqual(Region(3)(part), kept(3, (), part))


class GreatNumbers(unittest.TestCase):
    """What was returned has numbers of 13 digits and more, and goes into every door."""

    def test_moved_again_and_again(self):
        random = Random(211)
        for gauges, book, found, _, _ in boxes(seed=211, many=40):
            region, move = Region(gauges, *book), (0,) * gauges
            for _ in range(6):
                far = random.choice((0, 10 ** 12, 10 ** 31))
                by = tuple(random.choice((0, far, random.randint(-far, far))) for _ in range(gauges))
                region, move = region + by, tuple(one + other for one, other in zip(move, by))
            back = region + tuple(-one for one in move)
            self.assertEqual(back.rules, book)
            if not found:
                self.assertIs(bool(region), False)
                continue
            self.assertEqual(tuple(shown - one for shown, one in zip(region(), move)), back())
            for gauge in range(gauges):
                least, greatest, gaps = back[gauge]
                self.assertEqual(region[gauge], (least + move[gauge], greatest + move[gauge],
                                                 tuple((p + move[gauge], q + move[gauge]) for p, q in gaps)))
            self.check_doors(region)

    def check_doors(self, region):
        gauges, book, readings = region.gauges, region.rules, region()
        self.assertEqual(told_of(gauges, book), told_of(gauges, essence(gauges, book)))
        watch = StrictWatch(gauges, book)
        for gauge in range(gauges):
            least, greatest, _ = region[gauge]
            with self.assertRaises(Contradicted):
                watch.tell(gauge, "least", greatest + 1)
            self.assertIs(watch.tell(gauge, "least", least), False)
            self.assertEqual(watch.left(gauge), region[gauge])
            bound = (gauge, "least", readings[gauge])
            for other_gauge in range(gauges):
                if other_gauge != gauge:
                    beside = (other_gauge, "least", stair(gauges, book, bound, other_gauge, "least"))
                    self.assertTrue(follows(gauges, book, ("either", contrary(gauges, bound), beside)))
        for gauge in range(gauges):
            watch.show(gauge, readings[gauge])
        self.assertEqual(watch.readings(), readings)
        console = Console(gauges, book)
        for gauge in range(gauges):
            least, greatest, gaps = region[gauge]
            self.assertEqual(console.execute(f"left {LETTERS[gauge]}"),
                             " ".join([str(least), str(greatest), *[f"{p}:{q}" for p, q in gaps]]))

    def test_books_of_some_hundred_rules(self):
        random = Random(212)
        seen = seen_by_chance(random, 5, 30)
        region = Region.seen_in(5, seen)
        joined = region & Region.seen_in(5, seen[:20] + seen_by_chance(random, 5, 5))
        self.assertGreater(len(joined), 300)
        self.assertTrue(joined <= region and joined)
        whole = joined.essence()
        self.assertTrue(whole == joined)
        self.assertEqual(whole.essence().rules, whole.rules)
        self.assertTrue(joined.covered((0, 2, 4)) == Region.of(3, covered(5, whole.rules, (0, 2, 4))[1]))
        self.assertEqual(parting(5, joined.rules, whole.rules), None)
        self.assertEqual(Console(5, joined.rules).execute("blame"), "none")
        self.assertIsNone(paper(5, joined.rules))
        self.assertEqual(blame(5, joined.rules, tuple((0, "least", number) for number in range(10))), None)
        apart = region & region + (0, 4 * 10 ** 12, 0, 0, 0)
        self.assertFalse(apart)
        self.assertIsNone(not_kept_fault(5, apart.rules))
        with self.assertRaises(Unkeepable):
            apart.essence()


class BesideEachOther(unittest.TestCase):
    def test_a_region_beside_the_functions(self):
        random = Random(221)
        for gauges, book in open_books(seed=221, many=60):
            region, whole = Region(gauges, *book), essence(gauges, book)
            self.assertIs(bool(region), keepable(gauges, book))
            self.assertEqual(region(), kept(gauges, book))
            if whole is not None:
                for gauge in range(gauges):
                    self.assertEqual(region[gauge], span(gauges, book, gauge))
                self.assertEqual(region.essence().rules, whole)
            for _ in range(6):
                rule = made_rule(random, gauges, 10 ** 12, ALL_KINDS)
                other = Region(gauges, rule)
                self.assertIs(region <= other, follows(gauges, book, rule))
                self.assertIs(region == region & other, alike(gauges, book, (*book, rule)))
                readings = tuple(random.randint(-9, 9) for _ in range(gauges))
                self.assertIs(readings in region, broken(gauges, book, readings) == [])
                part = tuple(random.choice((None, random.randint(-9, 9))) for _ in range(gauges))
                self.assertEqual(region(part), kept(gauges, book, part))

    def test_a_watch_beside_a_region(self):
        random = Random(222)
        for gauges, book in made_open(seed=222, many=40):
            watch, region = Watch(gauges, book), Region(gauges, *book)
            for _ in range(8):
                number = random.choice((0, random.randint(-10 ** 12, 10 ** 12)))
                bound = (random.randrange(gauges), random.choice(WAYS), number)
                narrower = region & Region(gauges, ("bound", bound))
                self.assertIs(watch.tell(*bound), narrower < region)
                region = narrower
                self.assertEqual(watch.readings(), region())
                self.assertEqual(watch.blame() is None, bool(region))
                self.assertEqual(watch.blame(), blame(gauges, book, watch.told))
                for gauge in range(gauges if region else 0):
                    self.assertEqual(watch.left(gauge), region[gauge])

    def test_the_examples(self):
        halves, gapped = Region(2, *HALVES), Region(2, *GAPPED)
        self.assertEqual((halves[0], halves.covered((0,)).rules), ((None, 4, ()), (("bound", (0, "most", 4)),)))
        self.assertEqual(gapped[0], (None, None, ((3, 8),)))
        console = Console(2, read_book(2, "either a <= 3 or b >= 10 and either a <= 3 or a >= 8 and a <= b + 0"))
        self.assertEqual(console.execute("left a"), "- - 3:8")
        self.assertEqual(read_book(2, "a + b <= 7 and a <= b + 2"), HALVES)
        watch = Watch(2, GAPPED)
        for number, least in ((3, 3), (4, 10), (8, 10), (12, 12)):
            watch.begin()
            watch.tell(0, "least", number)
            self.assertEqual(watch.left(1)[0], least)
            watch.finish()
        with self.assertRaises(Contradicted) as caught:
            StrictWatch(2, HALVES).tell(0, "least", 5)
        self.assertEqual(caught.exception.blamed, (0,))


class NothingIsModified(unittest.TestCase):
    def calls(self):
        """Calls with what they are given, some of which raise an error."""
        a, b = Region(2, *HALVES), Region(2, *GAPPED)
        seen, part, move = [(1, 2), (3, -4), (9, 9)], (None, 3), (5, -6)
        return (
            ((2, *HALVES), Region), ((2, *RINGED, None), Region), ((2, HALVES), Region.of), ((2, [HALVES]), Region.of),
            ((2, seen), Region.seen_in), ((2, [*seen, None]), Region.seen_in), ((part,), a), (([None, 3],), a),
            ((b,), lambda other: a & other), (([b],), lambda other: a & other), ((move,), lambda it: a + it),
            ((list(move),), lambda it: a + it), ((b,), lambda other: a <= other), ((b,), lambda other: a == other),
            (([b],), lambda other: other in [a]), (([[4, 3]],), lambda it: it in a), (((4, 3),), lambda it: it in a),
            (((0, 1),), a.covered), (([0, 1],), a.covered), ((0,), lambda it: a[it]), (([0],), lambda it: a[it]),
            ((2, HALVES), Watch), ((2, list(HALVES)), Watch), ((2, HALVES), Console),
            ((["told"],), Console(2, HALVES).execute), (("told",), Console(2, HALVES).execute),
            ((0, "least", [5]), Watch(2, HALVES).tell), (([0],), Watch(2, HALVES).left), ((0,), Watch(2, HALVES).left),
            ((), Watch(2, HALVES).readings), ((), Watch(2, RINGED).blame),
        )

    def outcome(self, call, arguments):
        try:
            told = call(*arguments)
        except GaugeError as error:
            return type(error)
        if isinstance(told, Region):
            return (told.gauges, told.rules)
        return (told.book, told.told) if isinstance(told, Watch) else type(told) if isinstance(told, Console) else told

    def test_calls_twice(self):
        errors = 0
        for arguments, call in self.calls():
            shown = repr([self.plain(value) for value in arguments])
            told = self.outcome(call, arguments)
            self.assertEqual(self.outcome(call, copy.deepcopy(arguments)), told)
            self.assertEqual(self.outcome(call, arguments), told)
            self.assertEqual(repr([self.plain(value) for value in arguments]), shown)
            errors += isinstance(told, type) and issubclass(told, GaugeError)
        self.assertGreater(errors, 8)

    def plain(self, value):
        """A value with the rules of its regions."""
        if isinstance(value, (list, tuple)):
            return type(value)(map(self.plain, value))
        return (value.gauges, value.rules) if isinstance(value, Region) else value

    def test_equal_watches_tell_equal_things(self):
        for made in (Watch, StrictWatch):
            one, other = made(2, GAPPED), made(2, tuple(list(GAPPED)))
            for watch in (one, other):
                watch.tell(0, "least", 4)
                watch.show(1, 17)
            self.assertEqual((one.told, one.readings(), one.left(0)), (other.told, other.readings(), other.left(0)))
            self.assertTrue(all(rule_is_kept(rule, one.readings()) for rule in GAPPED))


if __name__ == "__main__":
    unittest.main()
