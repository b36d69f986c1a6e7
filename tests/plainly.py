"""What [11] to [14] ask for, told by going through all kept readings one by one; nothing here calls the package."""

from itertools import combinations, product

from tests.samples import WAYS, bound_is_kept, rule_is_kept


def with_bounds(kept, bounds):
    """The readings of which all bounds hold."""
    return [readings for readings in kept if all(bound_is_kept(bound, readings) for bound in bounds)]


def with_part(kept, part):
    """The readings that agree with a part."""
    return [readings for readings in kept
            if all(asked is None or asked == shown for asked, shown in zip(part, readings))]


def plain_blame(kept, bounds):
    """[11] blame."""
    if with_bounds(kept, bounds):
        return None
    if not kept:
        return ()
    for many in (1, 2):
        for chosen in combinations(range(len(bounds)), many):
            if not with_bounds(kept, [bounds[index] for index in chosen]):
                return chosen
    raise AssertionError("F3: at most two bounds are to blame")


def plain_span(kept, gauge):
    """[12] span."""
    shown = sorted({readings[gauge] for readings in kept})
    return (shown[0], shown[-1], tuple((p, q) for p, q in zip(shown, shown[1:]) if q > p + 1))


def plain_nearest(kept, gauge, number):
    """[12] nearest."""
    shown = {readings[gauge] for readings in kept}
    return (max((one for one in shown if one <= number), default=None),
            min((one for one in shown if one >= number), default=None))


def plain_extremes(kept, gauge, other_gauge):
    """[13] extremes."""
    differences = [readings[other_gauge] - readings[gauge] for readings in kept]
    sums = [readings[other_gauge] + readings[gauge] for readings in kept]
    return (min(differences), max(differences), min(sums), max(sums))


def plain_stair(kept, bound, other_gauge, other_way):
    """[13] stair; "cannot" if the bound cannot be."""
    shown = [readings[other_gauge] for readings in with_bounds(kept, [bound])]
    if not shown:
        return "cannot"
    return min(shown) if other_way == "least" else max(shown)


def by_extreme(kept, gauge, way, number, other_gauge, other_way):
    """What the extreme tells, as [13] has it."""
    least, greatest, least_sum, greatest_sum = plain_extremes(kept, gauge, other_gauge)
    if way == other_way:
        return number + (least if way == "least" else greatest)
    return (greatest_sum if other_way == "most" else least_sum) - number


def plain_corners(kept, gauge, way, other_gauge, other_way):
    """[13] corners, number by number."""
    shown = [readings[gauge] for readings in kept]
    sign, turn = (1 if way == "least" else -1), (1 if other_way == "least" else -1)
    found = []
    for number in range(min(shown) - 1, max(shown) + 2)[::sign]:
        other_number = plain_stair(kept, (gauge, way, number), other_gauge, other_way)
        if other_number == "cannot":
            continue
        blunter = plain_stair(kept, (gauge, way, number - sign), other_gauge, other_way)
        extreme = by_extreme(kept, gauge, way, number, other_gauge, other_way)
        if other_number * turn > blunter * turn and other_number * turn > extreme * turn:
            found.append((number, other_number))
    return found


def plain_contrary(bound):
    """[3] contrary."""
    gauge, way, number = bound
    return (gauge, "most", number - 1) if way == "least" else (gauge, "least", number + 1)


def plain_essence(kept):
    """[14] essence, of one or more readings."""
    gauges = len(kept[0])
    rules = []
    for gauge in range(gauges):
        least, greatest, gaps = plain_span(kept, gauge)
        rules += [("bound", (gauge, "least", least)), ("bound", (gauge, "most", greatest))]
        rules += [("either", (gauge, "most", p), (gauge, "least", q)) for p, q in gaps]
    for g, h in combinations(range(gauges), 2):
        least, greatest, least_sum, greatest_sum = plain_extremes(kept, g, h)
        rules += [("apart", g, h, -least), ("apart", h, g, greatest)]
        rules += [("sum", g, h, "least", least_sum), ("sum", g, h, "most", greatest_sum)]
        for way, other_way in product(WAYS, WAYS):
            for number, other_number in plain_corners(kept, g, way, h, other_way):
                rules.append(("either", plain_contrary((g, way, number)), (h, other_way, other_number)))
    return tuple(rules)


def plain_covered(kept, open_gauges):
    """[14] covered, of one or more readings."""
    return (len(open_gauges), plain_essence([tuple(readings[gauge] for gauge in open_gauges) for readings in kept]))


def always(kept, rule):
    """Whether a rule holds of all readings."""
    return all(rule_is_kept(rule, readings) for readings in kept)


def plain_middle(*three):
    """[5] the middle of three readings."""
    return tuple(sorted(numbers)[1] for numbers in zip(*three))


def all_middles(seen):
    """F8: the least set that has the seen readings and with any three members their middle."""
    members = sorted(set(seen))
    fresh = members
    while fresh:
        found = {plain_middle(*three) for three in combinations(members, 3)}
        fresh = sorted(found.difference(members))
        members = members + fresh
    return sorted(members)


def turned_about(rule):
    """The same rule in another form, where there is one."""
    if rule[0] == "either":
        return ("either", rule[2], rule[1])
    return rule


def shifted_bound(bound, move):
    gauge, way, number = bound
    return (gauge, way, number + move[gauge])


def shifted_rule(rule, move):
    """The rule that holds of readings with a move added just if the rule holds of the readings."""
    if rule[0] in ("bound", "either"):
        return (rule[0], *[shifted_bound(bound, move) for bound in rule[1:]])
    if rule[0] == "apart":
        _, g, h, number = rule
        return ("apart", g, h, number + move[g] - move[h])
    _, g, h, way, number = rule
    return ("sum", g, h, way, number + move[g] + move[h])


def shifted_book(book, move):
    return tuple(shifted_rule(rule, move) for rule in book)


def shifted_readings(readings, move):
    return tuple(shown + moved for shown, moved in zip(readings, move))
