"""[14]: follows, counter, alike, parting, needless, essence, covered, learned."""

import unittest
from itertools import combinations
from random import Random

from middlegauges.books import alike, counter, covered, essence, follows, learned, needless, parting
from middlegauges.keeping import keepable, kept
from middlegauges.spans import span

from tests.boxes import boxes, cornered_boxes, is_kept, not_kept_fault, open_books
from tests.plainly import (
    all_middles, always, plain_contrary, plain_covered, plain_essence, shifted_readings, shifted_rule)
from tests.samples import ALL_KINDS, WAYS, kept_in_box, made_rule, rule_is_kept

HALVES = (("sum", 0, 1, "most", 7), ("apart", 0, 1, 2))
GAPPED = (("either", (0, "most", 3), (1, "least", 10)), ("either", (0, "most", 3), (0, "least", 8)),
          ("apart", 0, 1, 0))
RINGED = (("apart", 0, 1, -2), ("apart", 1, 0, 1))
ODD = (("apart", 0, 1, 0), ("apart", 1, 0, 0), ("sum", 0, 1, "most", 3), ("sum", 0, 1, "least", 3))
EMPTY = (("bound", (0, "least", 1)), ("bound", (0, "most", 0)))


def keeps(book, readings):
    return all(rule_is_kept(rule, readings) for rule in book)


def against(rule):
    """The rules that hold of just the readings of which a rule does not."""
    if rule[0] in ("bound", "either"):
        return tuple(("bound", plain_contrary(bound)) for bound in rule[1:])
    if rule[0] == "apart":
        _, g, h, number = rule
        return (("apart", h, g, -number - 1),)
    _, g, h, way, number = rule
    return (("sum", g, h, "most", number - 1),) if way == "least" else (("sum", g, h, "least", number + 1),)


def blunted(rule, by):
    """A rule with each number moved, so that it is blunter by so much, or sharper if by is below 0."""
    if rule[0] in ("bound", "either"):
        moved = [(gauge, way, number - by if way == "least" else number + by) for gauge, way, number in rule[1:]]
        return (rule[0], *moved)
    if rule[0] == "sum" and rule[3] == "least":
        return (*rule[:4], rule[4] - by)
    return (*rule[:-1], rule[-1] + by)


class Follows(unittest.TestCase):
    def check(self, gauges, book, rule, found):
        holds = always(found, rule)
        self.assertIs(follows(gauges, book, rule), holds, (gauges, book, rule))
        told = counter(gauges, book, rule)
        self.assertEqual(told is None, holds)
        if told is not None:
            self.assertIn(told, found)
            self.assertFalse(rule_is_kept(rule, told))

    def test_beside_all_readings_of_boxes(self):
        random = Random(71)
        for gauges, book, found, move, size in boxes(seed=71, many=80) + cornered_boxes(seed=72, many=30):
            for _ in range(12):
                self.check(gauges, book, shifted_rule(made_rule(random, gauges, size + 2, ALL_KINDS), move), found)
            for rule in random.sample(book, min(3, len(book))):
                for by in (-1, 0, 1):
                    self.check(gauges, book, blunted(rule, by), found)

    def test_open_books_each_shown_by_itself(self):
        random = Random(73)
        told = {True: 0, False: 0}
        for gauges, book in open_books(seed=73, many=130):
            rules = [made_rule(random, gauges, 10 ** 12, ALL_KINDS) for _ in range(4)]
            rules += [blunted(rule, by) for rule in book[:3] for by in (-1, 0, 1)]
            for rule in rules:
                found = counter(gauges, book, rule)
                self.assertIs(follows(gauges, book, rule), found is None)
                if found is None:
                    self.assertFalse(is_kept(gauges, book + against(rule)), (gauges, book, rule))
                else:
                    self.assertTrue(keeps(book, found) and not rule_is_kept(rule, found))
                told[found is None] += 1
        self.assertTrue(min(told.values()) > 200, told)

    def test_a_rule_of_the_book_a_blunter_one_and_a_sharper_one(self):
        book = (("bound", (0, "least", 5)), ("apart", 0, 1, 2), ("sum", 0, 1, "most", 70),
                ("either", (0, "most", 9), (1, "least", 20)))
        for rule in book:
            self.assertIs(follows(2, book, rule), True)
            self.assertIs(follows(2, book, blunted(rule, 1)), True)
            self.assertIs(follows(2, book, blunted(rule, -1)), False)
            self.assertTrue(keeps(book, counter(2, book, blunted(rule, -1))))

    def test_what_follows_from_several_rules(self):
        self.assertIs(follows(2, HALVES, ("bound", (0, "most", 4))), True)
        self.assertIs(follows(2, HALVES, ("bound", (0, "most", 3))), False)
        self.assertEqual(counter(2, HALVES, ("bound", (0, "most", 3)))[0], 4)
        self.assertIs(follows(2, GAPPED, ("either", (0, "most", 3), (1, "least", 10))), True)
        self.assertIs(follows(2, GAPPED, ("either", (0, "most", 10), (1, "least", 11))), True)
        self.assertIs(follows(2, GAPPED, ("either", (0, "most", 9), (1, "least", 11))), False)
        self.assertIs(follows(2, GAPPED, ("either", (0, "most", 4), (0, "least", 8))), True)
        self.assertIs(follows(2, GAPPED, ("either", (0, "most", 2), (0, "least", 8))), False)

    def test_gauges_that_the_book_does_not_name(self):
        for rule in (("bound", (2, "least", 0)), ("apart", 2, 0, 5), ("apart", 2, 3, 10 ** 12),
                     ("sum", 0, 3, "most", 10 ** 12), ("either", (2, "most", 0), (3, "least", 0)), ("either", (0, "most", 3), (3, "least", 0))):
            self.assertIs(follows(4, HALVES, rule), False)
            found = counter(4, HALVES, rule)
            self.assertTrue(keeps(HALVES, found) and not rule_is_kept(rule, found))
        for rule in (("either", (2, "most", 0), (2, "least", 1)), ("either", (0, "most", 4), (3, "least", 0))):
            self.assertIs(follows(4, HALVES, rule), True)

    def test_no_book(self):
        for rule in (("bound", (0, "least", 0)), ("apart", 0, 1, 10 ** 12), ("sum", 0, 1, "least", -10 ** 12)):
            self.assertIs(follows(2, (), rule), False)
            self.assertFalse(rule_is_kept(rule, counter(2, (), rule)))
        self.assertIs(follows(1, (), ("either", (0, "least", 3), (0, "most", 2))), True)
        self.assertIs(follows(1, (), ("either", (0, "least", 4), (0, "most", 2))), False)

    def test_a_book_that_is_not_keepable(self):
        for book in (RINGED, ODD):
            for rule in (("bound", (0, "least", 9)), ("bound", (0, "most", 8)), ("apart", 0, 1, -99), *RINGED):
                self.assertIs(follows(2, book, rule), True)
                self.assertIsNone(counter(2, book, rule))


class Alike(unittest.TestCase):
    def check(self, gauges, one, other, same):
        self.assertIs(alike(gauges, one, other), same, (gauges, one, other))
        self.assertIs(alike(gauges, other, one), same)
        for first, second in ((one, other), (other, one)):
            found = parting(gauges, first, second)
            self.assertEqual(found is None, same)
            if found is not None:
                self.assertNotEqual(keeps(one, found), keeps(other, found))

    def test_beside_all_readings_of_boxes(self):
        random = Random(74)
        told = {True: 0, False: 0}
        for gauges, book, found, move, size in boxes(seed=74, many=60) + cornered_boxes(seed=75, many=30):
            pins = book[-2:]
            rules = [*book, shifted_rule(made_rule(random, gauges, size, ALL_KINDS), move)]
            other = tuple(random.sample(rules, len(rules)))
            same = [readings for readings in found if keeps(other, readings)] == found
            self.check(gauges, book, other, same)
            self.check(gauges, pins + book, book, True)
            told[same] += 1
        self.assertTrue(min(told.values()) > 10, told)

    def test_turned_about_twice_and_with_what_follows(self):
        random = Random(76)
        for gauges, book in open_books(seed=76, many=60):
            self.check(gauges, book, book[::-1], True)
            self.check(gauges, book + book[:2], book, True)
            turned = tuple((rule[0], rule[2], rule[1]) if rule[0] == "either" else rule for rule in book)
            self.check(gauges, book, turned, True)
            for rule in [blunted(rule, 1) for rule in book[:2]] + [made_rule(random, gauges, 10 ** 12, ALL_KINDS)]:
                self.check(gauges, book, (*book, rule), follows(gauges, book, rule))

    def test_a_number_moved_by_one(self):
        for book in (HALVES, GAPPED[:2], (("apart", 1, 0, 10 ** 12),), (("sum", 0, 1, "least", -10 ** 12),)):
            for index, rule in enumerate(book):
                for by in (-1, 1):
                    self.check(2, book, (*book[:index], blunted(rule, by), *book[index + 1:]), False)

    def test_examples(self):
        self.check(2, HALVES, (*HALVES, ("bound", (0, "most", 4))), True)
        self.check(2, HALVES, (*HALVES, ("bound", (0, "most", 3))), False)
        self.check(1, (), (("either", (0, "most", 3), (0, "least", 4)),), True)
        self.check(2, (), (("apart", 0, 1, 10 ** 12),), False)

    def test_books_that_are_not_keepable(self):
        self.check(2, RINGED, ODD, True)
        self.check(2, RINGED, RINGED, True)
        for book in ((), HALVES, GAPPED):
            self.check(2, book, ODD, False)
            self.assertTrue(keeps(book, parting(2, book, ODD)))
            self.assertTrue(keeps(book, parting(2, RINGED, book)))


class Needless(unittest.TestCase):
    def test_beside_all_readings_of_boxes(self):
        for gauges, book, _, _, _ in boxes(seed=77, many=40, most_rules=2, most_gauges=3):
            told = needless(gauges, book)
            self.assertIs(type(told), list)
            for index, rule in enumerate(book):
                found = counter(gauges, book[:index] + book[index + 1:], rule)
                self.assertEqual(found is None, index in told)
            self.assertEqual(told, sorted(set(told)))

    def test_open_books_each_shown_by_itself(self):
        told = {True: 0, False: 0}
        for gauges, book in open_books(seed=78, many=120, size=4, most_rules=7, most_gauges=3):
            found = needless(gauges, book)
            for index, rule in enumerate(book):
                others = book[:index] + book[index + 1:]
                self.assertEqual(index in found, not is_kept(gauges, others + against(rule)))
                told[index in found] += 1
        self.assertTrue(min(told.values()) > 80, told)

    def test_a_rule_twice_a_blunter_one_and_none(self):
        self.assertEqual(needless(2, HALVES), [])
        self.assertEqual(needless(2, ()), [])
        self.assertEqual(needless(2, (*HALVES, HALVES[0])), [0, 2])
        self.assertEqual(needless(2, (*HALVES, blunted(HALVES[1], 1))), [2])
        self.assertEqual(needless(2, (blunted(HALVES[0], 5), *HALVES)), [0])
        self.assertEqual(needless(2, (("bound", (0, "most", 4)), *HALVES)), [0])
        self.assertEqual(needless(2, (("bound", (0, "most", 3)), *HALVES)), [])
        self.assertEqual(needless(1, (("either", (0, "most", 3), (0, "least", 2)),)), [0])
        turned = (("either", (1, "least", 3), (0, "most", 2)), ("either", (0, "most", 2), (1, "least", 3)))
        self.assertEqual(needless(2, turned), [0, 1])

    def test_books_that_are_not_keepable(self):
        self.assertEqual(needless(2, RINGED), [])
        self.assertEqual(needless(2, RINGED + RINGED), [0, 1, 2, 3])
        self.assertEqual(needless(2, (*RINGED, ("bound", (0, "least", 5)))), [2])
        self.assertEqual(needless(2, ODD), [])

    def test_a_new_list_at_each_call(self):
        told = needless(2, HALVES * 2)
        told.append("more")
        self.assertEqual(needless(2, HALVES * 2), [0, 1, 2, 3])


class Essence(unittest.TestCase):
    def test_beside_all_readings_of_boxes(self):
        for gauges, book, found, _, _ in boxes(seed=79, many=60) + cornered_boxes(seed=80, many=40):
            told = essence(gauges, book)
            self.assertEqual(told, plain_essence(found) if found else None, (gauges, book))
            if told is not None:
                self.assertEqual(essence(gauges, told), told)

    def test_examples(self):
        self.assertEqual(essence(2, HALVES), (("bound", (0, "most", 4)), ("apart", 0, 1, 2), ("sum", 0, 1, "most", 7)))
        self.assertEqual(essence(2, GAPPED), (GAPPED[1], GAPPED[2], GAPPED[0]))
        self.assertIsNone(essence(2, RINGED))
        self.assertIsNone(essence(2, ODD))
        self.assertEqual(essence(3, ()), ())

    def test_the_sequence_of_the_rules(self):
        seen = [(0, 9, 4), (4, 5, 0), (8, 6, 9)]
        told = learned(3, seen)
        self.assertEqual(told, plain_essence(all_middles(seen)))
        ranks = []
        for rule in told:
            gauges = [rule[1][0]] if rule[0] == "bound" else [rule[1], rule[2]]
            if rule[0] == "either":
                gauges = [rule[1][0], rule[2][0]]
            ranks.append((len(set(gauges)), sorted(set(gauges)), ("bound", "apart", "sum", "either").index(rule[0])))
        self.assertEqual(ranks, sorted(ranks))
        self.assertEqual({rank[2] for rank in ranks}, {0, 1, 2, 3})
        ways = [(rule[1][1], rule[2][1]) for rule in told if rule[0] == "either" and (rule[1][0], rule[2][0]) == (0, 1)]
        order = [("most", "least"), ("most", "most"), ("least", "least"), ("least", "most")]
        self.assertEqual(ways, sorted(ways, key=order.index))

    def test_open_books(self):
        many = 0
        for gauges, book in open_books(seed=81, many=120):
            told = essence(gauges, book)
            self.assertEqual(told is not None, is_kept(gauges, book))
            if told is not None:
                many = max(many, len(told))
                self.assertEqual(essence(gauges, told), told)
                self.assertIs(alike(gauges, book, told), True)
                for rule in told:
                    self.assertFalse(is_kept(gauges, book + against(rule)))
                for rule in book:
                    self.assertFalse(is_kept(gauges, told + against(rule)))
        self.assertGreater(many, 25)

    def test_alike_books_have_one_essence(self):
        for gauges, book in open_books(seed=82, many=40):
            self.assertEqual(essence(gauges, book[::-1] + book[:1]), essence(gauges, book))


class Covered(unittest.TestCase):
    def test_beside_all_readings_of_boxes(self):
        random = Random(83)
        for gauges, book, found, _, _ in boxes(seed=83, many=60) + cornered_boxes(seed=84, many=40):
            for many in range(1, gauges + 1):
                chosen = tuple(sorted(random.sample(range(gauges), many)))
                told = covered(gauges, book, chosen)
                self.assertEqual(told, plain_covered(found, chosen) if found else (many, EMPTY))

    def test_just_what_the_open_gauges_can_show(self):
        for gauges, book, found, _, size in cornered_boxes(seed=85, many=40):
            if found and gauges == 3 and max(map(abs, found[0])) < 100:
                for chosen in combinations(range(3), 2):
                    count, told = covered(3, book, chosen)
                    seen = sorted({tuple(readings[gauge] for gauge in chosen) for readings in found})
                    self.assertEqual(seen, kept_in_box(count, told, -size - 1, size + 1))

    def test_one_gauge_tells_its_span(self):
        for gauges, book in open_books(seed=86, many=60):
            for gauge in range(gauges):
                count, told = covered(gauges, book, (gauge,))
                self.assertEqual(count, 1)
                if keepable(gauges, book):
                    self.assertEqual(span(1, told, 0), span(gauges, book, gauge))
                else:
                    self.assertEqual(told, EMPTY)

    def test_all_gauges_leave_the_essence(self):
        for gauges, book in open_books(seed=87, many=40):
            told = essence(gauges, book)
            self.assertEqual(covered(gauges, book, tuple(range(gauges))), (gauges, EMPTY if told is None else told))

    def test_open_books_open_and_close_the_same_readings(self):
        random = Random(88)
        for gauges, book in open_books(seed=88, many=80):
            chosen = tuple(sorted(random.sample(range(gauges), random.randint(1, gauges))))
            count, told = covered(gauges, book, chosen)
            self.assertEqual(count, len(chosen))
            if not keepable(gauges, book):
                continue
            self.assertEqual(essence(count, told), told)
            part = tuple(random.choice((None, random.randint(-10 ** 12, 10 ** 12))) for _ in range(count))
            found = kept(count, told, part)
            whole = [None] * gauges
            for gauge, shown in zip(chosen, part if found is None else found):
                whole[gauge] = shown
            self.assertEqual(kept(gauges, book, tuple(whole)) is None, found is None)

    def test_halves_are_rounded_down(self):
        self.assertEqual(covered(2, HALVES, (0,)), (1, (("bound", (0, "most", 4)),)))
        self.assertEqual(covered(2, HALVES, (1,)), (1, ()))
        for total, half in ((8, 4), (-9, -5), (-7, -4), (10 ** 12 - 1, 5 * 10 ** 11 - 1)):
            book = (("sum", 0, 1, "most", total), ("apart", 1, 0, 0))
            self.assertEqual(covered(2, book, (1,)), (1, (("bound", (0, "most", half)),)))
        book = (*HALVES, ("apart", 2, 0, 10), ("sum", 0, 3, "least", 1))
        self.assertEqual(covered(4, book, (2, 3)), (2, (
            ("bound", (0, "most", 14)), ("bound", (1, "least", -3)), ("apart", 0, 1, 17))))

    def test_gauges_are_numbered_anew(self):
        book = (("apart", 1, 3, 5), ("bound", (4, "least", 7)), ("sum", 1, 4, "most", 2))
        self.assertEqual(covered(5, book, (3, 4)), (2, (("bound", (1, "least", 7)),)))
        self.assertEqual(covered(5, book, (1, 4)), (2, (
            ("bound", (0, "most", -5)), ("bound", (1, "least", 7)), ("apart", 0, 1, -12), ("sum", 0, 1, "most", 2))))
        self.assertEqual(covered(5, book, (1, 3)), (2, (("bound", (0, "most", -5)), ("apart", 0, 1, 5))))
        self.assertEqual(covered(5, book, (0, 2)), (2, ()))

    def test_books_that_are_not_keepable(self):
        for book in (RINGED, ODD):
            self.assertEqual(covered(3, book, (2,)), (1, EMPTY))
            self.assertEqual(covered(3, book, (0, 2)), (2, EMPTY))
            self.assertEqual(covered(3, book, (0, 1, 2)), (3, EMPTY))
        self.assertIs(keepable(1, EMPTY), False)


class Learned(unittest.TestCase):
    def check(self, gauges, seen, size):
        """Just the set of F8 keeps the book in a box around it, and the book is the essence of this set."""
        members = all_middles(seen)
        told = learned(gauges, seen)
        self.assertEqual(told, plain_essence(members))
        self.assertEqual(kept_in_box(gauges, told, -size - 1, size + 1), members)
        self.assertEqual(essence(gauges, told), told)

    def test_one_reading_and_the_same_one_twice(self):
        told = (("bound", (0, "least", 5)), ("bound", (0, "most", 5)),
                ("bound", (1, "least", -3)), ("bound", (1, "most", -3)),
                ("apart", 0, 1, 8), ("apart", 1, 0, -8), ("sum", 0, 1, "least", 2), ("sum", 0, 1, "most", 2))
        self.assertEqual(learned(2, [(5, -3)]), told)
        self.assertEqual(learned(2, [(5, -3)] * 30), told)
        self.assertEqual(learned(1, [(0,)]), (("bound", (0, "least", 0)), ("bound", (0, "most", 0))))

    def test_several_in_a_box(self):
        random = Random(89)
        for turn in range(60):
            gauges = 1 + turn % 4
            size = (9, 7, 4, 3)[gauges - 1]
            seen = [tuple(random.randint(-size, size) for _ in range(gauges)) for _ in range(random.randint(1, 6))]
            self.check(gauges, seen, size)

    def test_the_example_of_a_middle(self):
        told = learned(2, [(0, 9), (4, 5), (7, 1)])
        self.assertIs(keeps(told, (4, 5)), True)
        self.assertEqual(kept_in_box(2, told, 0, 9), all_middles([(0, 9), (4, 5), (7, 1)]))

    def test_the_sequence_of_the_seen_is_all_one(self):
        seen = [(0, 9, 1), (4, 5, 5), (7, 1, 3), (2, 2, 2)]
        self.assertEqual(learned(3, seen[::-1] + seen[:2]), learned(3, seen))

    def test_each_rule_that_holds_of_all_seen_follows(self):
        random = Random(90)
        for turn in range(40):
            gauges = 2 + turn % 4
            seen = [tuple(random.randint(-6, 6) for _ in range(gauges)) for _ in range(random.randint(1, 8))]
            told = learned(gauges, seen)
            for _ in range(25):
                rule = made_rule(random, gauges, 8, ALL_KINDS)
                self.assertIs(follows(gauges, told, rule), always(seen, rule))

    def test_many_with_numbers_of_12_digits(self):
        random = Random(91)
        for gauges in range(1, 6):
            rising = [sorted(random.randint(-10 ** 12 + 1, 10 ** 12 - 1) for _ in range(30)) for _ in range(gauges)]
            for seen in (list(zip(*rising)), list(zip(*[random.sample(column, 30) for column in rising]))):
                told = learned(gauges, seen)
                self.assertTrue(all(keeps(told, readings) for readings in seen))
                self.assertEqual(told, plain_essence_of_far(gauges, seen))
                self.assertEqual(essence(gauges, told), told)
                self.assertIs(alike(gauges, told, told[::-1]), True)
                self.assertEqual(covered(gauges, told, (gauges - 1,)), (1, learned(1, [shown[-1:] for shown in seen])))

    def test_moved_readings_leave_a_moved_book(self):
        seen, move = [(0, 9, 1), (4, 5, 5), (7, 1, 3)], (10 ** 12, -10 ** 12, 3)
        there = learned(3, [shifted_readings(readings, move) for readings in seen])
        self.assertEqual(there, tuple(shifted_rule(rule, move) for rule in learned(3, seen)))


def plain_essence_of_far(gauges, seen):
    """The essence of the set of F8, told from the seen readings alone, for each rule that holds of them holds of it.

    A stair steps only right beyond a seen number, so no number between has to be tried.
    """
    rules = []
    for gauge in range(gauges):
        shown = sorted({readings[gauge] for readings in seen})
        rules += [("bound", (gauge, "least", shown[0])), ("bound", (gauge, "most", shown[-1]))]
        rules += [("either", (gauge, "most", p), (gauge, "least", q)) for p, q in zip(shown, shown[1:]) if q > p + 1]
    for g, h in combinations(range(gauges), 2):
        differences, sums = [r[h] - r[g] for r in seen], [r[h] + r[g] for r in seen]
        rules += [("apart", g, h, -min(differences)), ("apart", h, g, max(differences))]
        rules += [("sum", g, h, "least", min(sums)), ("sum", g, h, "most", max(sums))]
        for way in WAYS:
            for other_way in WAYS:
                rules += far_corner_rules(seen, g, way, h, other_way)
    return tuple(rules)


def far_corner_rules(seen, g, way, h, other_way):
    """Signs turned so that both ways are "least", each seen number is tried as the one that a bound just excludes."""
    sign, turn = (1 if way == "least" else -1), (1 if other_way == "least" else -1)
    pairs = [(sign * readings[g], turn * readings[h]) for readings in seen]
    steepest = min(y - x for x, y in pairs)
    found = []
    for x in sorted({pair[0] for pair in pairs})[:-1]:
        beside = min(b for a, b in pairs if a >= x)
        behind = min(b for a, b in pairs if a > x)
        if behind > beside and behind > x + 1 + steepest:
            turned = "most" if way == "least" else "least"
            found.append(("either", (g, turned, sign * x), (h, other_way, turn * behind)))
    return found


class Sizes(unittest.TestCase):
    def test_what_is_returned_may_be_passed_back(self):
        random = Random(92)
        columns = [sorted(random.randint(-10 ** 11, 10 ** 11) for _ in range(30)) for _ in range(5)]
        told = learned(5, list(zip(columns[0], columns[1], columns[2][::-1], columns[3], columns[4][::-1])))
        self.assertGreater(len(told), 600)
        self.assertTrue(keeps(told, kept(5, told)))
        self.assertIs(follows(5, told, told[-1]), True)
        self.assertIsNone(counter(5, told, told[100]))
        self.assertIs(alike(5, told, essence(5, told)), True)
        self.assertEqual(covered(5, told, (0, 1)), (2, learned(2, list(zip(columns[0], columns[1])))))
        alone = covered(5, told, (0,))[1]
        self.assertEqual(needless(1, alone), [])
        self.assertEqual(needless(1, alone + alone[:1]), [0, len(alone)])
        sharper = (*told, blunted(told[0], -1))
        found = parting(5, told, sharper)
        self.assertTrue(keeps(told, found) and not keeps(sharper, found))
        self.assertIsNone(not_kept_fault(5, (*told, ("bound", (0, "least", columns[0][-1] + 1)))))


if __name__ == "__main__":
    unittest.main()
