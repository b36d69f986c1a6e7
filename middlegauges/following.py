"""Following: what bounds force by rules, one rule at a time, and how they clash."""

from middlegauges.checks import WAYS, check_book, check_bound, check_bounds, check_gauges, check_rule
from middlegauges.rules import is_sharper, opposes


def forced(gauges, rule, bound):
    """The ascending list of the bounds, each once, that a bound forces by a rule."""
    check_gauges(gauges)
    check_rule(gauges, rule)
    check_bound(gauges, bound)
    return forced_by(rule, bound)


def ring(gauges, book):
    """A ring of the book as (bound, steps), None if it has none."""
    check_gauges(gauges)
    check_book(gauges, book)
    return find_ring(gauges, book)


def brought(gauges, book, bounds):
    """The ascending list of the sharpest bounds that come from some bounds, None if they clash."""
    check_gauges(gauges)
    check_book(gauges, book)
    check_bounds(gauges, bounds)
    if find_ring(gauges, book) is not None:
        return None
    sharpest = sharpest_to_come(book, bounds)
    if opposed_gauge(gauges, sharpest) is not None:
        return None
    # Gauges in sequence, and "least" ahead of "most": this is ascending.
    return [sharpest[place][0] for place in places(gauges) if place in sharpest]


def clash(gauges, book, bound):
    """A paper on how a bound clashes, None if it does not."""
    check_gauges(gauges)
    check_book(gauges, book)
    check_bound(gauges, bound)
    found = find_ring(gauges, book)
    if found is not None:
        return ("ring", found)
    steps = clash_steps(gauges, book, bound)
    return None if steps is None else ("oppose", steps)


def clash_steps(gauges, book, bound):
    """The steps of a clash of a bound in a book without rings, None if it does not clash."""
    sharpest = sharpest_to_come(book, (bound,))
    gauge = opposed_gauge(gauges, sharpest)
    if gauge is None:
        return None
    _, low_steps = sharpest[(gauge, "least")]
    _, high_steps = sharpest[(gauge, "most")]
    return low_steps + high_steps


def places(gauges):
    """The pairs of a gauge and a way, ascending."""
    return [(gauge, way) for gauge in range(gauges) for way in WAYS]


def place_of(bound):
    """The gauge and the way of a bound."""
    gauge, way, _ = bound
    return (gauge, way)


def forced_by(rule, bound):
    """As forced, of a rule and a bound that are taken as checked."""
    kind = rule[0]
    if kind == "apart":
        return forced_by_apart(rule, bound)
    if kind == "sum":
        return forced_by_sum(rule, bound)
    if kind == "either":
        return forced_by_either(rule, bound)
    return []


def forced_by_apart(rule, bound):
    """What a bound forces by an apart rule."""
    _, gauge, other_gauge, apart = rule
    on, way, number = bound
    if on == gauge and way == "least":
        return [(other_gauge, "least", number - apart)]
    if on == other_gauge and way == "most":
        return [(gauge, "most", number + apart)]
    return []


def forced_by_sum(rule, bound):
    """What a bound forces by a sum rule: a bound with the way of the rule, from one with the other way."""
    _, gauge, other_gauge, rule_way, total = rule
    on, way, number = bound
    if way == rule_way or on not in (gauge, other_gauge):
        return []
    partner = other_gauge if on == gauge else gauge
    return [(partner, rule_way, total - number)]


def forced_by_either(rule, bound):
    """What a bound forces by an either rule; both of its bounds if it opposes both."""
    _, one, other = rule
    low, high = (one, other) if one < other else (other, one)
    found = []
    if opposes(bound, high):
        found.append(low)
    if low != high and opposes(bound, low):
        found.append(high)
    return found


def find_ring(gauges, book):
    """As ring, of a book that is taken as checked.

    From a bound at each place walks are taken on, as long as they come to a sharper bound than was found there.
    Such a walk either comes to each place once, and there are finitely many of these, or it closes a ring.
    """
    moves = ring_moves(gauges, book)
    walks = {place: ((None, (*place, 0)),) for place in places(gauges)}
    moving = True
    while moving:
        moving = False
        for index, place in moves:
            walk = walks[place]
            bound = forced_by(book[index], walk[-1][1])[0]
            target = place_of(bound)
            if is_sharper(bound, walks[target][-1][1]):
                walk = (*walk, (index, bound))
                found = closed_ring(walk)
                if found is not None:
                    return found
                walks[target] = walk
                moving = True
    return None


def ring_moves(gauges, book):
    """The pairs of the index of an apart or sum rule and a place of which each bound forces one by it."""
    moves = []
    for index, rule in enumerate(book):
        if rule[0] in ("apart", "sum"):
            moves.extend([(index, place) for place in places(gauges) if forced_by(rule, (*place, 0))])
    return moves


def closed_ring(walk):
    """The ring at the end of a walk that came to its last place before, None if it did not."""
    target = place_of(walk[-1][1])
    for at, (_, bound) in enumerate(walk[:-1]):
        if place_of(bound) == target:
            return (bound, walk[at + 1:])
    return None


def sharpest_to_come(book, bounds):
    """By its place the sharpest bound that comes, with the steps to it from one of the bounds or from a bound rule.

    Only in a book without rings this comes to an end.
    """
    coming = [(bound, ()) for bound in bounds]
    coming.extend([(rule[1], ((index, rule[1]),)) for index, rule in enumerate(book) if rule[0] == "bound"])
    sharpest = {}
    while coming:
        changed = {}
        for bound, steps in coming:
            if is_news(sharpest, bound):
                sharpest[place_of(bound)] = (bound, steps)
                changed[place_of(bound)] = True
        coming = []
        for place in changed:
            coming.extend(next_to_come(book, sharpest, place))
    return sharpest


def next_to_come(book, sharpest, place):
    """What the sharpest bound at a place forces and is sharper than what has come, each with the steps to it."""
    bound, steps = sharpest[place]
    found = []
    for index, rule in enumerate(book):
        for other_bound in forced_by(rule, bound):
            if is_news(sharpest, other_bound):
                found.append((other_bound, (*steps, (index, other_bound))))
    return found


def is_news(sharpest, bound):
    """Whether a bound is sharper than what has come at its place, or the first one there."""
    place = place_of(bound)
    return place not in sharpest or is_sharper(bound, sharpest[place][0])


def opposed_gauge(gauges, sharpest):
    """The first gauge of which the two sharpest bounds oppose each other, None if there is none."""
    for gauge in range(gauges):
        least, most = (gauge, "least"), (gauge, "most")
        if least in sharpest and most in sharpest and opposes(sharpest[least][0], sharpest[most][0]):
            return gauge
    return None
