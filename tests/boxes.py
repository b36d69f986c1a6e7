"""Books in small boxes with all of their kept readings, and what shows by itself whether a book can be kept."""

from random import Random

from middlegauges.keeping import kept, paper

from tests.plainly import shifted_book, shifted_readings
from tests.samples import ALL_KINDS, kept_in_box, made_rule, paper_fault, ring_fault, rule_is_kept

FAR = 10 ** 12 - 100

# By the number of gauges: how far the box goes, so that its readings are some hundreds.
SIZES = {1: 9, 2: 6, 3: 4, 4: 2, 5: 2}

MIXES = (ALL_KINDS, ALL_KINDS, ("either",), ("apart", "sum"), ("apart", "sum", "either"))


def sides_of_box(random, size):
    if random.random() < 0.8:
        return (-size, size)
    return tuple(sorted((random.randint(-size, size), random.randint(-size, size))))


def made_gap(random, gauges, size):
    """An either rule that makes a gap of some gauge."""
    gauge = random.randrange(gauges)
    before = random.randint(-size, size)
    return ("either", (gauge, "most", before), (gauge, "least", before + random.randint(2, 2 + size // 2)))


def made_rules(random, gauges, size, most_rules):
    mix = random.choice(MIXES)
    sizes = (size, 2 * size)
    rules = [made_rule(random, gauges, random.choice(sizes), mix) for _ in range(random.randint(0, most_rules))]
    return rules + [made_gap(random, gauges, size) for _ in range(random.choice((0, 0, 1, 3)))]


def rules_for_some(random, gauges, size, mix, most_rules):
    """Rules that hold of a few readings, so that more of them can be kept together."""
    seen = [tuple(random.randint(-size, size) for _ in range(gauges)) for _ in range(random.randint(1, 4))]
    rules = [made_rule(random, gauges, size, mix) for _ in range(30 * most_rules)]
    return [rule for rule in rules if all(rule_is_kept(rule, readings) for readings in seen)][:most_rules]


def boxed_in(random, gauges, size, rules):
    """A book with two bounds for each gauge among its rules, and its kept readings."""
    rules = list(rules)
    for gauge in range(gauges):
        low, high = sides_of_box(random, size)
        rules += [("bound", (gauge, "least", low)), ("bound", (gauge, "most", high))]
    random.shuffle(rules)
    return (tuple(rules), kept_in_box(gauges, rules, -size, size))


def moved_far(random, gauges, size, rules, far):
    """A book in a box as (gauges, book, kept, move, size), moved to where numbers have as many digits as far."""
    book, found = boxed_in(random, gauges, size, rules)
    move = tuple(random.choice((-far, far, random.randint(-far, far))) for _ in range(gauges))
    found = [shifted_readings(readings, move) for readings in found]
    return (gauges, shifted_book(book, move), found, move, size)


def boxes(seed, many, most_rules=6, most_gauges=5):
    """Made boxes as (gauges, book, kept, move, size), about half of them with numbers of 12 digits."""
    random = Random(seed)
    made = []
    for turn in range(many):
        gauges = 1 + turn % most_gauges
        rules = made_rules(random, gauges, SIZES[gauges], most_rules)
        made.append(moved_far(random, gauges, SIZES[gauges], rules, FAR * (turn // most_gauges % 2)))
    return made


def cornered_boxes(seed, many):
    """Like boxes, of two or three gauges, with many either rules, so that there are many corners."""
    random = Random(seed)
    made = []
    for turn in range(many):
        gauges, size = ((2, 7), (3, 4))[turn % 2]
        mix = random.choice((("either",), ("either", "either", "apart", "sum")))
        rules = rules_for_some(random, gauges, size, mix, 12)
        rules += [made_gap(random, gauges, size) for _ in range(random.choice((0, 0, 1)))]
        made.append(moved_far(random, gauges, size, rules, FAR * (turn // 2 % 2)))
    return made


def open_books(seed, many, size=5 * 10 ** 11, most_rules=9, most_gauges=5):
    """Made books as (gauges, book), in which little or nothing bounds most of the gauges."""
    random = Random(seed)
    made = []
    for turn in range(many):
        gauges = 1 + turn % most_gauges
        rules = made_rules(random, gauges, size, random.choice((4, most_rules)))
        if random.random() < 0.3:
            rules = rules_for_some(random, gauges, size, random.choice(MIXES), most_rules)
        made.append((gauges, tuple(rules)))
    return made


def not_kept_fault(gauges, book):
    """What is wrong with the paper of a book that is said not to be keepable; None if nothing is."""
    told = paper(gauges, book)
    if type(told) is not tuple or not told:
        return f"no paper: {told}"
    if told[0] == "ring":
        return ring_fault(book, told[1]) if len(told) == 2 else "not of the form (ring, ring)"
    if told[0] != "split" or len(told) != 5:
        return "not of the form (split, gauge, number, low, high)"
    _, gauge, number, low, high = told
    return (paper_fault(gauges, book, (gauge, "most", number - 1), ("oppose", low))
            or paper_fault(gauges, book, (gauge, "least", number), ("oppose", high)))


def is_kept(gauges, book):
    """Whether a book is keepable, shown by readings that keep it, or else by a paper that is walked step by step."""
    found = kept(gauges, book)
    if found is not None:
        broken = [rule for rule in book if not rule_is_kept(rule, found)]
        assert not broken and paper(gauges, book) is None, f"{gauges}, {book}: {found} breaks {broken}"
        return True
    fault = not_kept_fault(gauges, book)
    assert fault is None, f"{gauges}, {book}: {fault}"
    return False
