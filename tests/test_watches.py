"""[16]: watches."""

import unittest
from random import Random

from middlegauges.errors import (
    Contradicted, InvalidBook, InvalidCount, InvalidGauge, InvalidNumber, InvalidWay, NoBlock, NothingToUndo,
    Unkeepable)
from middlegauges.keeping import blame
from middlegauges.regions import Region
from middlegauges.spans import span
from middlegauges.watches import StrictWatch, Watch

from tests.boxes import boxes, cornered_boxes, is_kept, open_books
from tests.plainly import plain_blame, plain_contrary, plain_span, with_bounds
from tests.samples import WAYS, WRONG_BOOKS, WRONG_COUNTS, WRONG_GAUGES, WRONG_NUMBERS, WRONG_WAYS, rule_is_kept

HALVES = (("sum", 0, 1, "most", 7), ("apart", 0, 1, 2))
GAPPED = (("either", (0, "most", 3), (1, "least", 10)), ("either", (0, "most", 3), (0, "least", 8)),
          ("apart", 0, 1, 0))
RINGED = (("apart", 0, 1, -2), ("apart", 1, 0, 1))
ODD = (("apart", 0, 1, 0), ("apart", 1, 0, 0), ("sum", 0, 1, "most", 3), ("sum", 0, 1, "least", 3))

LISTED = ("__init__", "gauges", "book", "told", "tell", "show", "undo", "blame", "left", "readings", "__len__", "begin",
          "finish", "twin")

OBJECTS = (Region(2), Watch(2, ()), StrictWatch(2, ()), InvalidCount("an object"))


class PlainWatch:
    """[16] beside all kept readings of a box. Each block keeps a copy of all deeds."""

    def __init__(self, found, strict):
        self.found = found
        self.strict = strict
        self.deeds = []
        self.blocks = []

    def told(self):
        return tuple(bound for deed in self.deeds for bound in deed)

    def left(self, more=()):
        return with_bounds(self.found, self.told() + tuple(more))

    def do(self, bounds):
        """How many bounds are news; ("contradicted", blamed) if that is refused."""
        news = []
        for bound in bounds:
            left = self.left(news)
            if len(with_bounds(left, [bound])) < len(left):
                news.append(bound)
        if self.strict and news and not self.left(news):
            return ("contradicted", plain_blame(self.found, self.told() + tuple(news)))
        if news:
            self.deeds.append(tuple(news))
        return len(news)

    def undo(self):
        if len(self.deeds) == (len(self.blocks[-1]) if self.blocks else 0):
            return "nothing"
        return len(self.deeds.pop())

    def finish(self):
        if not self.blocks:
            return "no block"
        self.deeds = self.blocks.pop()
        return None

    def twin(self):
        twin = PlainWatch(self.found, self.strict)
        twin.deeds = list(self.deeds)
        return twin


def made_watch(strict, gauges, book):
    return (StrictWatch if strict else Watch)(gauges, book)


def outcome(call, *arguments):
    """What a call returns, in the words of PlainWatch."""
    try:
        return call(*arguments)
    except Contradicted as error:
        return ("contradicted", error.blamed)
    except NothingToUndo:
        return "nothing"
    except NoBlock:
        return "no block"


def state(watch):
    return (watch.gauges, watch.book, watch.told, len(watch), watch.blame())


class BesideBoxes(unittest.TestCase):
    def check_answers(self, watch, plain):
        self.assertEqual((watch.told, len(watch)), (plain.told(), len(plain.told())))
        self.assertIs(type(watch.told), tuple)
        self.assertEqual(watch.blame(), plain_blame(plain.found, plain.told()))
        left, told = plain.left(), watch.readings()
        if left:
            self.assertIn(told, left)
            gauge = len(plain.told()) % watch.gauges
            self.assertEqual(watch.left(gauge), plain_span(left, gauge))
        else:
            self.assertIsNone(told)
            with self.assertRaises(Unkeepable):
                watch.left(0)

    def near(self, random, plain, move, size):
        """A gauge and a number about what it can still show, or about where the box is."""
        left = plain.left() or plain.found
        gauge = random.randrange(len(move))
        if left and random.random() < 0.8:
            return (gauge, random.choice(left)[gauge] + random.choice((0, 0, 0, -1, 1, 3)))
        return (gauge, move[gauge] + random.randint(-size - 1, size + 1))

    def step(self, random, watch, plain, move, size):
        """One deed on both, with the same outcome; returns what it was."""
        deed = random.choice(("tell", "tell", "tell", "show", "undo", "begin", "finish"))
        gauge, number = self.near(random, plain, move, size)
        if deed == "tell":
            way = random.choice(WAYS)
            told, expected = outcome(watch.tell, gauge, way, number), plain.do([(gauge, way, number)])
            if type(expected) is int:
                self.assertIs(told, expected == 1)
            else:
                self.assertEqual(told, expected)
            return (deed, told)
        if deed == "show":
            told = outcome(watch.show, gauge, number)
            self.assertEqual(told, plain.do([(gauge, "least", number), (gauge, "most", number)]))
        elif deed == "undo":
            told = outcome(watch.undo)
            self.assertEqual(told, plain.undo())
        elif deed == "begin":
            told = watch.begin()
            self.assertIsNone(told)
            plain.blocks.append(list(plain.deeds))
        else:
            told = outcome(watch.finish)
            self.assertEqual(told, plain.finish())
        return (deed, told)

    def check_runs(self, strict, seed):
        random = Random(seed)
        seen = {}
        for gauges, book, found, move, size in boxes(seed, 70) + cornered_boxes(seed + 1, 30):
            watch, plain = made_watch(strict, gauges, book), PlainWatch(found, strict)
            self.check_answers(watch, plain)
            for _ in range(25):
                key = self.step(random, watch, plain, move, size)
                seen[key] = seen.get(key, 0) + 1
                self.check_answers(watch, plain)
                if random.random() < 0.1:
                    watch, plain = self.changed_for_twin(random, watch, plain, move, size)
            self.assertEqual((watch.gauges, watch.book), (gauges, book))
        return seen

    def changed_for_twin(self, random, watch, plain, move, size):
        """One of a watch and its twin, after deeds on the other one, which change nothing of it."""
        pair = [(watch, plain), (watch.twin(), plain.twin())]
        self.assertIs(type(pair[1][0]), type(watch))
        random.shuffle(pair)
        for _ in range(4):
            self.step(random, *pair[0], move, size)
        self.check_answers(*pair[0])
        self.check_answers(*pair[1])
        return pair[1]

    def test_watches(self):
        seen = self.check_runs(strict=False, seed=151)
        for key in (("tell", True), ("tell", False), ("show", 0), ("show", 1), ("show", 2), ("undo", 1), ("undo", 2),
                    ("undo", "nothing"), ("begin", None), ("finish", None), ("finish", "no block")):
            self.assertGreater(seen[key], 15, key)

    def test_strict_watches(self):
        seen = self.check_runs(strict=True, seed=161)
        refused = [(deed, told[1]) for deed, told in seen if type(told) is tuple]
        for deed in ("tell", "show"):
            self.assertGreater(len([1 for one, _ in refused if one == deed]), 5)
        self.assertEqual({len(blamed) for _, blamed in refused}, {1, 2})


class Making(unittest.TestCase):
    def test_by_position_and_by_name(self):
        for made in (Watch, StrictWatch):
            for watch in (made(2, HALVES), made(book=HALVES, gauges=2)):
                self.assertEqual(state(watch), (2, HALVES, (), 0, None))
        self.assertTrue(issubclass(StrictWatch, Watch))

    def test_what_is_listed_is_defined_in_the_classes(self):
        for name in LISTED:
            self.assertIn(name, vars(Watch))
        for name in ("tell", "show"):
            self.assertIn(name, vars(StrictWatch))
        for made in (Watch, StrictWatch):
            self.assertEqual(made.__module__, "middlegauges.watches")

    def test_wrong_arguments(self):
        for made in (Watch, StrictWatch):
            for wrong in (*WRONG_COUNTS, *OBJECTS):
                for book in (HALVES, None):
                    with self.assertRaises(InvalidCount):
                        made(wrong, book)
            for wrong in (*WRONG_BOOKS, *OBJECTS, list(HALVES)):
                with self.assertRaises(InvalidBook):
                    made(2, wrong)
            with self.assertRaises(InvalidBook):
                made(gauges=1, book=HALVES)

    def test_properties_are_not_set(self):
        for watch in (Watch(2, HALVES), StrictWatch(2, HALVES)):
            for name in ("gauges", "book", "told"):
                with self.assertRaises(AttributeError):
                    setattr(watch, name, ())

    def test_they_are_not_compared_by_what_is_in_them_and_not_iterated_over(self):
        for made in (Watch, StrictWatch):
            watch = made(2, HALVES)
            self.assertTrue(watch == watch and watch != made(2, HALVES) and watch != watch.twin())
            self.assertEqual(len({watch: 1, watch.twin(): 2, made(2, HALVES): 3}), 3)
            for go_over in (iter, list, tuple, lambda it: [*it]):
                with self.assertRaises(TypeError):
                    go_over(watch)


class Telling(unittest.TestCase):
    def test_what_follows_is_no_news(self):
        for made in (Watch, StrictWatch):
            watch = made(2, HALVES)
            self.assertIs(watch.tell(0, "most", 4), False)
            self.assertIs(watch.tell(way="most", number=3, gauge=0), True)
            self.assertIs(watch.tell(0, "most", 3), False)
            self.assertIs(watch.tell(1, "least", 1), True)
            self.assertIs(watch.tell(1, "least", 1), False)
            self.assertEqual(watch.told, ((0, "most", 3), (1, "least", 1)))
            self.assertEqual(len(watch), 2)
            self.assertEqual(watch.left(0), (None, 3, ()))
            self.assertEqual(watch.left(gauge=1), (1, None, ()))

    def test_a_gap_may_be_narrowed_by_what_is_no_news(self):
        watch = Watch(2, GAPPED)
        self.assertIs(watch.tell(0, "least", 4), True)
        for number in (5, 8):
            self.assertIs(watch.tell(0, "least", number), False)
        self.assertIs(watch.tell(1, "least", 10), False)
        self.assertEqual((watch.left(0), watch.left(1)), ((8, None, ()), (10, None, ())))

    def test_show(self):
        for made in (Watch, StrictWatch):
            watch = made(2, HALVES)
            self.assertEqual(watch.show(0, 4), 1)
            self.assertEqual(watch.told, ((0, "least", 4),))
            self.assertEqual(watch.show(number=3, gauge=1), 1)
            self.assertEqual(watch.told, ((0, "least", 4), (1, "least", 3)))
            self.assertEqual(watch.show(1, 3), 0)
            self.assertEqual(watch.readings(), (4, 3))
            self.assertEqual([watch.undo(), watch.undo()], [1, 1])
            self.assertEqual(watch.show(1, -5), 2)
            self.assertEqual(watch.told, ((1, "least", -5), (1, "most", -5)))
            self.assertEqual(watch.undo(), 2)
            self.assertEqual(watch.told, ())

    def test_the_second_bound_of_show_is_news_or_not_beside_the_first(self):
        # At least 3 leaves 3 alone, so that at most 3 is no news.
        watch = Watch(1, (("either", (0, "most", 0), (0, "least", 3)), ("bound", (0, "most", 3))))
        self.assertEqual(watch.show(0, 3), 1)
        self.assertEqual(watch.told, ((0, "least", 3),))
        # At least 2 leaves 3 alone, and at most 2 then leaves none: that is news, too.
        watch.undo()
        self.assertEqual(watch.show(0, 2), 2)
        self.assertEqual(watch.blame(), (0, 1))
        # At least 4 leaves none by itself; then nothing is news.
        watch.undo()
        self.assertEqual(watch.show(0, 4), 1)
        self.assertEqual((watch.told, watch.blame()), (((0, "least", 4),), (0,)))

    def test_once_no_readings_are_left_nothing_is_news(self):
        watch = Watch(2, HALVES)
        self.assertIs(watch.tell(0, "least", 5), True)
        for gauge in (0, 1):
            for way in WAYS:
                for number in (0, 10 ** 12, -10 ** 12):
                    self.assertIs(watch.tell(gauge, way, number), False)
            self.assertEqual(watch.show(gauge, 3), 0)
            with self.assertRaises(Unkeepable):
                watch.left(gauge)
        self.assertEqual(watch.told, ((0, "least", 5),))
        self.assertEqual((watch.blame(), watch.readings()), ((0,), None))
        self.assertEqual(watch.undo(), 1)
        self.assertEqual(watch.left(0), (None, 4, ()))

    def test_a_book_that_is_not_keepable(self):
        for made in (Watch, StrictWatch):
            for book in (RINGED, ODD):
                watch = made(2, book)
                self.assertEqual(watch.blame(), ())
                self.assertIs(watch.tell(0, "least", 5), False)
                self.assertEqual(watch.show(1, 5), 0)
                self.assertEqual((watch.told, len(watch), watch.readings()), ((), 0, None))
                with self.assertRaises(Unkeepable):
                    watch.left(1)
                with self.assertRaises(NothingToUndo):
                    watch.undo()

    def test_books_that_nothing_bounds_from_outside(self):
        random = Random(171)
        told = {True: 0, False: 0}
        for gauges, book in open_books(seed=171, many=60):
            watch = Watch(gauges, book)
            for _ in range(6):
                gauge, way, size = random.randrange(gauges), random.choice(WAYS), random.choice((9, 10 ** 12))
                bound = (gauge, way, random.randint(-size, size))
                ahead = watch.told
                against = tuple(("bound", one) for one in (*ahead, plain_contrary(bound)))
                news = watch.tell(*bound)
                self.assertIs(news, is_kept(gauges, book + against), (gauges, book, ahead, bound))
                self.assertEqual(watch.told, (*ahead, bound) if news else ahead)
                self.check_left(watch)
                told[news] += 1
        self.assertGreater(min(told.values()), 60)

    def check_left(self, watch):
        rules = watch.book + tuple(("bound", bound) for bound in watch.told)
        readings = watch.readings()
        self.assertEqual(watch.blame(), blame(watch.gauges, watch.book, watch.told))
        if readings is None:
            self.assertFalse(is_kept(watch.gauges, rules))
        else:
            self.assertTrue(all(rule_is_kept(rule, readings) for rule in rules))
            for gauge in range(watch.gauges):
                self.assertEqual(watch.left(gauge), span(watch.gauges, rules, gauge))


class Undoing(unittest.TestCase):
    def test_deed_by_deed(self):
        for made in (Watch, StrictWatch):
            watch = made(3, ())
            with self.assertRaises(NothingToUndo):
                watch.undo()
            watch.tell(0, "least", 1)
            watch.show(1, 5)
            watch.tell(0, "least", 0)
            watch.tell(2, "most", 9)
            self.assertEqual(len(watch), 4)
            self.assertEqual([watch.undo(), watch.undo()], [1, 2])
            self.assertEqual(watch.told, ((0, "least", 1),))
            watch.show(0, 3)
            self.assertEqual([watch.undo(), watch.undo()], [2, 1])
            with self.assertRaises(NothingToUndo):
                watch.undo()
            self.assertEqual(watch.told, ())

    def test_what_was_no_news_is_no_deed(self):
        watch = Watch(1, (("bound", (0, "least", 3)), ("bound", (0, "most", 3))))
        self.assertEqual((watch.show(0, 3), watch.tell(0, "most", 7)), (0, False))
        with self.assertRaises(NothingToUndo):
            watch.undo()


class Blocks(unittest.TestCase):
    def test_without_a_block(self):
        for made in (Watch, StrictWatch):
            watch = made(2, HALVES)
            with self.assertRaises(NoBlock):
                watch.finish()
            self.assertIsNone(watch.begin())
            self.assertIsNone(watch.finish())
            with self.assertRaises(NoBlock):
                watch.finish()

    def test_within_a_block_undo_takes_back_only_what_was_done_there(self):
        for made in (Watch, StrictWatch):
            watch = made(2, ())
            watch.tell(0, "least", 1)
            watch.begin()
            with self.assertRaises(NothingToUndo):
                watch.undo()
            watch.show(1, 5)
            watch.tell(0, "least", 2)
            self.assertEqual(watch.undo(), 1)
            watch.begin()
            with self.assertRaises(NothingToUndo):
                watch.undo()
            watch.tell(0, "least", 3)
            watch.finish()
            self.assertEqual(watch.told, ((0, "least", 1), (1, "least", 5), (1, "most", 5)))
            self.assertEqual(watch.undo(), 2)
            with self.assertRaises(NothingToUndo):
                watch.undo()
            watch.finish()
            self.assertEqual(watch.told, ((0, "least", 1),))
            self.assertEqual(watch.undo(), 1)

    def test_the_end_of_a_block_gives_back_what_undo_can_take_back(self):
        watch = Watch(2, ())
        watch.tell(0, "least", 1)
        watch.show(0, 4)
        watch.begin()
        watch.tell(1, "least", 1)
        watch.tell(1, "least", 2)
        watch.undo()
        watch.finish()
        self.assertEqual(watch.told, ((0, "least", 1), (0, "least", 4), (0, "most", 4)))
        self.assertEqual([watch.undo(), watch.undo()], [2, 1])

    def test_twenty_deep(self):
        for made in (Watch, StrictWatch):
            watch = made(2, HALVES)
            states = []
            for turn in range(20):
                states.append(state(watch))
                watch.begin()
                watch.tell(turn % 2, "most", -turn)
            self.assertEqual(len(watch), 20)
            self.assertEqual(watch.twin().told, watch.told)
            for before in reversed(states):
                self.assertIsNone(watch.finish())
                self.assertEqual(state(watch), before)
            with self.assertRaises(NoBlock):
                watch.finish()


class Twins(unittest.TestCase):
    def test_of_the_same_class_and_independent(self):
        for made in (Watch, StrictWatch):
            watch = made(2, HALVES)
            watch.tell(0, "least", 1)
            twin = watch.twin()
            self.assertIs(type(twin), made)
            self.assertEqual(state(twin), state(watch))
            twin.show(1, 2)
            self.assertEqual(watch.told, ((0, "least", 1),))
            watch.undo()
            self.assertEqual(twin.told, ((0, "least", 1), (1, "least", 2), (1, "most", 2)))
            self.assertIs(type(twin.twin()), made)

    def test_outside_of_all_blocks_it_takes_back_each_deed(self):
        for made in (Watch, StrictWatch):
            watch = made(2, ())
            watch.tell(0, "least", 1)
            watch.begin()
            watch.show(1, 5)
            watch.begin()
            watch.tell(0, "least", 2)
            twin = watch.twin()
            with self.assertRaises(NoBlock):
                twin.finish()
            self.assertEqual([twin.undo(), twin.undo(), twin.undo()], [1, 2, 1])
            with self.assertRaises(NothingToUndo):
                twin.undo()
            self.assertEqual(len(watch), 4)
            watch.finish()
            watch.finish()
            self.assertEqual(watch.told, ((0, "least", 1),))

    def test_a_strict_twin_is_strict(self):
        twin = StrictWatch(2, HALVES).twin()
        with self.assertRaises(Contradicted):
            twin.tell(0, "least", 5)


class Strict(unittest.TestCase):
    def check(self, watch, call, blamed):
        before = state(watch)
        with self.assertRaises(Contradicted) as caught:
            call()
        self.assertEqual(caught.exception.blamed, blamed)
        self.assertIs(type(caught.exception.blamed), tuple)
        self.assertEqual(state(watch), before)

    def test_what_leaves_no_readings_is_not_done(self):
        watch = StrictWatch(2, HALVES)
        self.check(watch, lambda: watch.tell(0, "least", 5), (0,))
        self.check(watch, lambda: watch.show(0, 5), (0,))
        self.assertIs(watch.tell(1, "most", 0), True)
        self.assertIs(watch.tell(1, "most", -1), True)
        self.check(watch, lambda: watch.tell(0, "least", 2), (1, 2))
        # At least 2 alone would leave none, so that at most 2 is no news.
        self.check(watch, lambda: watch.show(0, 2), (1, 2))
        self.check(watch, lambda: watch.tell(1, "least", 0), (1, 2))
        self.check(watch, lambda: watch.tell(0, "least", 5), (2,))
        self.assertEqual(watch.show(0, 1), 1)
        self.assertEqual(watch.readings(), (1, -1))
        self.assertIs(watch.tell(0, "least", 1), False)

    def test_show_is_refused_as_one(self):
        watch = StrictWatch(2, GAPPED)
        # At least 5 is news and leaves readings; at most 5 beside it leaves none.
        self.check(watch, lambda: watch.show(0, 5), (0, 1))
        with self.assertRaises(NothingToUndo):
            watch.undo()
        watch.tell(0, "most", 3)
        self.check(watch, lambda: watch.show(0, 5), (0, 1))
        watch.tell(1, "least", 1)
        self.check(watch, lambda: watch.show(1, 0), (1, 2))
        self.assertEqual(watch.show(0, 2), 2)

    def test_known_beside_a_book_without_readings(self):
        watch = StrictWatch(2, RINGED)
        self.assertEqual((watch.tell(0, "least", 5), watch.show(0, 5)), (False, 0))

    def test_within_a_block(self):
        watch = StrictWatch(2, HALVES)
        watch.tell(0, "least", 1)
        watch.begin()
        watch.tell(1, "most", 1)
        self.check(watch, lambda: watch.tell(0, "least", 4), (1, 2))
        self.assertEqual(watch.undo(), 1)
        with self.assertRaises(NothingToUndo):
            watch.undo()
        watch.finish()
        self.assertEqual(watch.told, ((0, "least", 1),))


class WrongArguments(unittest.TestCase):
    def each_watch(self):
        for made in (Watch, StrictWatch):
            for book in (HALVES, RINGED):
                watch = made(2, book)
                watch.tell(1, "most", -4)
                watch.begin()
                watch.show(0, -9)
                yield watch
        watch = Watch(2, HALVES)
        watch.tell(0, "least", 5)
        yield watch

    def check(self, watch, call, error):
        before = state(watch)
        with self.assertRaises(error) as caught:
            call()
        self.assertIs(type(caught.exception), error)
        self.assertEqual(state(watch), before)

    def test_each_by_itself_and_ahead_of_all_else(self):
        for watch in self.each_watch():
            for wrong in (*WRONG_GAUGES, *OBJECTS):
                self.check(watch, lambda: watch.tell(wrong, "least", 99), InvalidGauge)
                self.check(watch, lambda: watch.show(wrong, 99), InvalidGauge)
                self.check(watch, lambda: watch.left(wrong), InvalidGauge)
                self.check(watch, lambda: watch.left(gauge=wrong), InvalidGauge)
            for wrong in (*WRONG_WAYS, *OBJECTS):
                self.check(watch, lambda: watch.tell(0, wrong, 99), InvalidWay)
            for wrong in (*WRONG_NUMBERS, *OBJECTS):
                self.check(watch, lambda: watch.tell(0, "least", wrong), InvalidNumber)
                self.check(watch, lambda: watch.show(0, wrong), InvalidNumber)

    def test_several_at_once(self):
        for watch in self.each_watch():
            for turn in range(12):
                gauge, way = WRONG_GAUGES[turn % len(WRONG_GAUGES)], WRONG_WAYS[turn]
                number = WRONG_NUMBERS[turn % len(WRONG_NUMBERS)]
                self.check(watch, lambda: watch.tell(gauge, way, number), InvalidGauge)
                self.check(watch, lambda: watch.tell(gauge, "least", number), InvalidGauge)
                self.check(watch, lambda: watch.tell(gauge, way, 5), InvalidGauge)
                self.check(watch, lambda: watch.tell(number=number, way=way, gauge=1), InvalidWay)
                self.check(watch, lambda: watch.show(number=number, gauge=gauge), InvalidGauge)


if __name__ == "__main__":
    unittest.main()
