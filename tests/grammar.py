"""[17] as rows of words, written out one by one; nothing here calls the package.

A row is one form that a rule can have: a tuple of words, of which NUMBER, FROM_0 and FROM_1 stand for any number, one
that is not below 0, and one that is above 0.
"""

import re
from itertools import product

NUMBER, FROM_0, FROM_1 = "any number", "a number from 0 on", "a number from 1 on"

FITS = {NUMBER: r"0|-?[1-9][0-9]{0,11}", FROM_0: r"0|[1-9][0-9]{0,11}", FROM_1: r"[1-9][0-9]{0,11}"}


def rule_rows(gauges):
    """All rows of rules."""
    letters = "abcde"[:gauges]
    bounds = [(letter, sign, NUMBER) for letter, sign in product(letters, (">=", "<="))]
    rows = bounds + [("either", *one, "or", *other) for one, other in product(bounds, repeat=2)]
    for one, other in product(letters, repeat=2):
        if one != other:
            rows += [(one, "<=", other, "+", FROM_0), (one, "<=", other, "-", FROM_1)]
        if one < other:
            rows += [(one, "+", other, sign, NUMBER) for sign in (">=", "<=")]
    return rows


def fits(word, asked):
    if asked in FITS:
        return re.fullmatch(FITS[asked], word) is not None
    return word == asked


def misplaced(rows, words, joint=None):
    """None if words are of one of the rows, or of several of them with a joint between; else the place [17] tells."""
    going = {(row, 0) for row in rows}
    whole = False
    for place, word in enumerate(words):
        following = {(row, at + 1) for row, at in going if at < len(row) and fits(word, row[at])}
        if whole and joint is not None and word == joint:
            following |= {(row, 0) for row in rows}
        if not following:
            return place
        going = following
        whole = any(at == len(row) for row, at in going)
    return None if whole else len(words)


def rule_place(gauges, text):
    return misplaced(rule_rows(gauges), text.split(" "))


def book_place(gauges, text):
    words = text.split(" ")
    if words[0] == "-":
        return None if len(words) == 1 else 1
    return misplaced(rule_rows(gauges), words, joint="and")


def part_place(gauges, text):
    return misplaced(list(product((NUMBER, "-"), repeat=gauges)), text.split(" "))
