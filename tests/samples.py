"""What several tests share: wrong values, made-up books, and the document's definitions written out plainly.

Nothing here calls the package but for its errors, so that a test compares two independent readings of DOC.md.
"""

from itertools import product
from random import Random

from middlegauges.errors import InvalidCount

WAYS = ("least", "most")

BIG = 10 ** 30

# Wrong for each parameter, but for "least", which is a way, and None, which is no part at all.
NOTHING_KNOWN = (None, True, False, "", "least", "bound", "a >= 5", [], [1, 2], [[[]]], InvalidCount("an object"),
                 (None,), ((),), ("bound",), ("least",), (True, False), (0, "least"))

WRONG_COUNTS = (*NOTHING_KNOWN, 0, 6, -1, 10 ** 12, "2", (), (2,), [2])

# Of two gauges.
WRONG_BOUNDS = (
    *NOTHING_KNOWN, 0, 5, (), [0, "least", 5], (0, "least", 5, 0), (0, "least", 5, None), ("least", 0, 5),
    (2, "least", 5), (-1, "least", 5), (True, "least", 5), (False, "most", 5), (None, "least", 5), ("0", "least", 5),
    ((0,), "least", 5), (0, "Least", 5), (0, "least ", 5), (0, "at least", 5), (0, "", 5), (0, "greatest", 5),
    (0, ">=", 5), (0, None, 5), (0, True, 5), (0, 0, 5), (0, ("least",), 5), (0, ["most"], 5), (0, ("least", "most"), 5),
    (0, "least", True), (0, "most", False), (0, "least", None), (0, "least", "5"), (0, "least", (5,)),
    (0, "least", [5]), (BIG, "least", 5), ((0, "least", 5),), ("bound", (0, "least", 5)),
)

WRONG_BOUND_ROWS = (
    *NOTHING_KNOWN, 0, (0, "least", 5), [(0, "least", 5)], ((0, "least", 5), (2, "least", 5)),
    ((0, "least", True), (0, "least", 5)), ((0, "least", 5), [0, "least", 5]), (((0, "least", 5),),),
    (("bound", (0, "least", 5)),), ((0, "least", 5), None),
)

FIT = (0, "least", 5)

# Of two gauges.
WRONG_RULES = (
    *NOTHING_KNOWN, 0, (), ((0, "least", 5),), (0, "least", 5),
    ["bound", (0, "least", 5)], ("bound", [0, "least", 5]), ("bound", 0, "least", 5), ("bound", FIT, FIT),
    ("bound", (2, "least", 5)), ("bound", (0, "least", True)), ("bound", (0, "leas", 5)), ("bounds", FIT),
    ("Bound", FIT), ("bound ", FIT), (("bound",), FIT), (["bound"], FIT), (None, FIT), (True, FIT), ("bound", None),
    ["apart", 0, 1, 2], ("apart", 0, 1), ("apart", 0, 1, 2, 3), ("apart", 0, 0, 2), ("apart", 1, 1, 2),
    ("apart", 0, 2, 2), ("apart", 2, 0, 2), ("apart", -1, 0, 2), ("apart", 0, -1, 2), ("apart", True, 0, 2),
    ("apart", 0, True, 2), ("apart", False, 1, 2), ("apart", 0, 1, True), ("apart", 0, 1, None), ("apart", 0, 1, "2"),
    ("apart", "0", 1, 2), ("apart", 0, (1,), 2), ("apart", (0, 1), 2), ("apart", 0, 1, "most", 2), ("Apart", 0, 1, 2),
    ("part", 0, 1, 2), ("apart",), ("apart", 0, None, 2), ("apart", 0, 1, [2]),
    ["sum", 0, 1, "most", 7], ("sum", 0, 1, 7), ("sum", 0, 1, "most"), ("sum", 0, 1, "most", 7, 8),
    ("sum", 1, 0, "most", 7), ("sum", 0, 0, "most", 7), ("sum", 1, 1, "least", 7), ("sum", 0, 2, "most", 7),
    ("sum", -1, 0, "most", 7), ("sum", False, 1, "most", 7), ("sum", 0, True, "most", 7),
    ("sum", 0, 1, "Most", 7), ("sum", 0, 1, "more", 7), ("sum", 0, 1, None, 7), ("sum", 0, 1, ["most"], 7),
    ("sum", 0, 1, "most", True), ("sum", 0, 1, "most", None), ("sum", 0, 1, "most", "7"), ("sum", 0, 1, 7, "most"),
    ("sums", 0, 1, "most", 7), ("sum", "0", 1, "most", 7), ("sum", 0, "1", "most", 7), ("sum", (0, 1), "most", 7),
    ("sum",), ("sum", None, None, "most", 7), ("sum", 0, [1], "most", 7),
    ["either", FIT, FIT], ("either", FIT), ("either", FIT, FIT, FIT), ("either", (FIT, FIT)),
    ("either", list(FIT), FIT), ("either", FIT, list(FIT)), ("either", (2, "least", 5), FIT),
    ("either", FIT, (2, "least", 5)), ("either", FIT, (0, "least", False)), ("either", (True, "least", 5), FIT),
    ("either", FIT, ("bound", FIT)), ("either", FIT, None), ("Either", FIT, FIT), ("or", FIT, FIT), ("either",),
)

WRONG_BOOKS = (
    *NOTHING_KNOWN, 0, ("bound", (0, "least", 5)), [("bound", (0, "least", 5))], (("bound", FIT), ("sum", 1, 0, "most", 7)),
    (("apart", 0, 0, 1), ("bound", FIT)), (("bound", FIT), None), (("bound", FIT), ["bound", FIT]), ((("bound", FIT),),),
    (FIT,), (("bound", FIT), ()), {"bound": FIT},
)

# Of two gauges.
WRONG_READINGS = (
    *NOTHING_KNOWN, 0, 12, (), (1,), (1, 2, 3), [1, 2], (1, None), (None, 2), (None, None), (1, True), (False, 2),
    (1, "2"), ("1", 2), ((1, 2),), ((1,), (2,)), (1, [2]), (1, (2,)), "12",
)

RIGHT_BOUNDS = ((0, "least", 5), (1, "most", -7), (0, "most", 0), (1, "least", BIG), (0, "least", -BIG))

RIGHT_RULES = (
    ("bound", (0, "least", 5)), ("bound", (1, "most", -BIG)), ("apart", 0, 1, 2), ("apart", 1, 0, -2),
    ("apart", 0, 1, 0), ("apart", 1, 0, BIG), ("sum", 0, 1, "most", 7), ("sum", 0, 1, "least", -BIG),
    ("either", (0, "most", 3), (1, "least", 10)), ("either", (0, "most", 3), (0, "least", 8)),
    ("either", (0, "least", 3), (0, "least", 8)), ("either", (1, "most", 3), (1, "most", 3)),
)


def bound_is_kept(bound, readings):
    gauge, way, number = bound
    return readings[gauge] >= number if way == "least" else readings[gauge] <= number


def rule_is_kept(rule, readings):
    if rule[0] == "bound":
        return bound_is_kept(rule[1], readings)
    if rule[0] == "apart":
        return readings[rule[1]] - readings[rule[2]] <= rule[3]
    if rule[0] == "sum":
        total = readings[rule[1]] + readings[rule[2]]
        return total >= rule[4] if rule[3] == "least" else total <= rule[4]
    return bound_is_kept(rule[1], readings) or bound_is_kept(rule[2], readings)


def kept_in_box(gauges, book, low, high):
    """The readings with numbers from low to high that keep a book."""
    return [readings for readings in product(range(low, high + 1), repeat=gauges)
            if all(rule_is_kept(rule, readings) for rule in book)]


def are_opposed(one, other):
    """Two bounds, as [3] tells it of the one with "least" and the one with "most"."""
    if (one[1], other[1]) == ("most", "least"):
        one, other = other, one
    return (one[1], other[1]) == ("least", "most") and one[0] == other[0] and one[2] > other[2]


def plainly_forced(rule, bound):
    """The lines of [6], one by one."""
    found = []
    if rule[0] == "apart":
        _, g, h, k = rule
        if bound[:2] == (g, "least"):
            found.append((h, "least", bound[2] - k))
        if bound[:2] == (h, "most"):
            found.append((g, "most", bound[2] + k))
    if rule[0] == "sum":
        _, g, h, way, k = rule
        for here, there in ((g, h), (h, g)):
            if way == "most" and bound[:2] == (here, "least"):
                found.append((there, "most", k - bound[2]))
            if way == "least" and bound[:2] == (here, "most"):
                found.append((there, "least", k - bound[2]))
    if rule[0] == "either":
        _, p, q = rule
        if are_opposed(bound, p):
            found.append(q)
        if are_opposed(bound, q):
            found.append(p)
    return sorted(set(found))


def gains(gauges, book):
    """By pairs of places the most that is gained from the one to the other by up to 2 * gauges apart and sum rules.

    The number of a bound counts as it gets sharper: as it is for "least", with its sign turned for "most".
    """
    places = [(gauge, way) for gauge in range(gauges) for way in WAYS]
    gain = {(place, place): 0 for place in places}
    for rule in book:
        for place in places if rule[0] in ("apart", "sum") else ():
            for g, way, number in plainly_forced(rule, (*place, 0)):
                worth = number if way == "least" else -number
                pair = (place, (g, way))
                gain[pair] = max(gain.get(pair, worth), worth)
    for via, start, end in product(places, repeat=3):
        if (start, via) in gain and (via, end) in gain:
            worth = gain[(start, via)] + gain[(via, end)]
            gain[(start, end)] = max(gain.get((start, end), worth), worth)
    return gain


def has_ring(gauges, book):
    return any(start == end and worth > 0 for (start, end), worth in gains(gauges, book).items())


def all_that_comes(book, bounds):
    """The sharpest bounds that come, found by going over all rules again and again; of a book without rings."""
    best = {}
    fresh = list(bounds) + [rule[1] for rule in book if rule[0] == "bound"]
    while fresh:
        for bound in fresh:
            old = best.get(bound[:2])
            if old is None or (bound[2] > old if bound[1] == "least" else bound[2] < old):
                best[bound[:2]] = bound[2]
        known = [(*place, number) for place, number in best.items()]
        fresh = [target for bound in known for rule in book for target in plainly_forced(rule, bound)]
        fresh = [target for target in fresh if not is_covered(best, target)]
    return sorted((*place, number) for place, number in best.items())


def is_covered(best, bound):
    """Whether a bound is not sharper than the best at its place."""
    if bound[:2] not in best:
        return False
    number = best[bound[:2]]
    return bound[2] <= number if bound[1] == "least" else bound[2] >= number


def some_oppose(bounds):
    return any(are_opposed(one, other) for one in bounds for other in bounds)


def ring_fault(book, found):
    """What is wrong with a ring, followed step by step; None if nothing is."""
    if type(found) is not tuple or len(found) != 2 or type(found[1]) is not tuple or not found[1]:
        return "not of the form (bound, steps)"
    first, steps = found
    last = first
    for step in steps:
        if type(step) is not tuple or len(step) != 2 or type(step[0]) is not int or not 0 <= step[0] < len(book):
            return f"not a step: {step}"
        index, bound = step
        if book[index][0] not in ("apart", "sum") or bound not in plainly_forced(book[index], last):
            return f"not forced by the step ahead: {step}"
        last = bound
    if last[:2] != first[:2] or is_covered({first[:2]: first[2]}, last):
        return "the last bound is not sharper than the first one"
    return None


def paper_fault(gauges, book, bound, paper):
    """What is wrong with a paper of a clash, followed step by step; None if nothing is."""
    if type(paper) is not tuple or len(paper) != 2:
        return "not of the form (word, what)"
    if has_ring(gauges, book):
        return ring_fault(book, paper[1]) if paper[0] == "ring" else "the book has a ring"
    if paper[0] != "oppose" or type(paper[1]) is not tuple:
        return "not of the form (oppose, steps)"
    known = [bound]
    for step in paper[1]:
        if type(step) is not tuple or len(step) != 2 or type(step[0]) is not int or not 0 <= step[0] < len(book):
            return f"not a step: {step}"
        index, target = step
        by_itself = book[index] == ("bound", target)
        if not by_itself and not any(target in plainly_forced(book[index], one) for one in known):
            return f"neither a bound rule nor forced: {step}"
        known.append(target)
    return None if some_oppose(known) else "no two bounds oppose each other"


def made_bound(random, gauges, size):
    return (random.randrange(gauges), random.choice(WAYS), random.randint(-size, size))


def made_rule(random, gauges, size, kinds):
    kind = random.choice(kinds if gauges > 1 else ("bound", "either"))
    if kind == "bound":
        return ("bound", made_bound(random, gauges, size))
    if kind == "either":
        return ("either", made_bound(random, gauges, size), made_bound(random, gauges, size))
    g, h = random.sample(range(gauges), 2)
    if kind == "apart":
        return ("apart", g, h, random.randint(-size, size))
    return ("sum", min(g, h), max(g, h), random.choice(WAYS), random.randint(-size, size))


ALL_KINDS = ("bound", "apart", "apart", "sum", "sum", "either", "either")


def made_books(seed, many, most_gauges=3, most_rules=7, size=5, kinds=ALL_KINDS):
    """Books of many kinds, always the same ones for the same seed, as pairs (gauges, book)."""
    random = Random(seed)
    made = []
    for _ in range(many):
        gauges = random.randint(1, most_gauges)
        rules = random.randint(0, most_rules)
        made.append((gauges, tuple(made_rule(random, gauges, size, kinds) for _ in range(rules))))
    return made


def boxed(gauges, book, size):
    """A book with bound rules behind it by which each gauge shows a number from -size to size."""
    sides = [("bound", (gauge, way, end)) for gauge in range(gauges) for way, end in (("least", -size), ("most", size))]
    return (*book, *sides)


# Of two gauges; 0 and 1 are gauges.
WRONG_GAUGES = (*NOTHING_KNOWN, 2, 5, -1, BIG, -BIG, "0", (0,), [0], ("0",), (0, 1))

WRONG_WAYS = (*[value for value in NOTHING_KNOWN if value != "least"], 0, 1, "Least", "mos", "most ", " most",
              "leastmost", "greatest", ("most",), ["least"], ("least", "most"))

WRONG_NUMBERS = (*NOTHING_KNOWN, "5", "0", (5,), [5], (0, "least", 5))

# Of two gauges; None stands for nothing filled in.
WRONG_PARTS = (*[value for value in NOTHING_KNOWN if value is not None], 0, (), (1,), (None,), (1, 2, 3), [1, 2],
               (None, None, None), [None, None], (1, True), (False, None), (None, "2"), ((1, 2),), (None, (2,)), "12")

WRONG_CHOICES = (*NOTHING_KNOWN, 0, 1, (), (0, 0), (1, 0), (0, 1, 1), (0, 2), (2,), (-1, 0), (-1,), [0], [0, 1], "01",
                 ((0,),), ((0, 1),), (0, None), (True,), (False,), (0, True), ("0",), (0, "1"), (BIG,))

WRONG_SEEN = (*NOTHING_KNOWN, 0, (), (1, 2), ((1, 2),), ((1, 2), (3, 4)), [()], [(1, 2), ()], [(1, 2), (1,)],
              [(1, 2), [3, 4]], [[1, 2]], [(1, None)], [(1, 2), (None, None)], [(True, 2)], [(1, 2, 3)],
              [(1, 2), None], [((1, 2),)], ["12"], [("1", 2)], [[(1, 2)]])
