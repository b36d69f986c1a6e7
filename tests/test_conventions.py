"""[2]: errors and their sequence, arguments by position and by name, nothing modified, equal results."""

import copy
import inspect
import unittest
from itertools import combinations

from middlegauges.books import alike, counter, covered, essence, follows, learned, needless, parting
from middlegauges.errors import (
    InvalidBook, InvalidBound, InvalidChoice, InvalidCount, InvalidGauge, InvalidNumber, InvalidReadings, InvalidRule,
    InvalidWay, Unkeepable)
from middlegauges.following import brought, clash, forced, ring
from middlegauges.keeping import blame, can_be, keepable, kept, paper
from middlegauges.rules import broken, contrary, holds, is_book, is_bound, is_part, is_readings, is_rule, middle
from middlegauges.spans import nearest, shows, span
from middlegauges.stairs import corners, extremes, stair
from middlegauges.words import read_book, read_part, read_rule, write_book, write_part, write_rule

from tests.samples import (
    RIGHT_RULES, WRONG_BOOKS, WRONG_BOUND_ROWS, WRONG_BOUNDS, WRONG_CHOICES, WRONG_COUNTS, WRONG_GAUGES, WRONG_NUMBERS,
    WRONG_PARTS, WRONG_READINGS, WRONG_RULES, WRONG_SEEN, WRONG_WAYS)

# The second one of [7], with a rule of each kind in all.
KEEPABLE = (("either", (0, "most", 3), (1, "least", 10)), ("either", (0, "most", 3), (0, "least", 8)),
            ("apart", 0, 1, 0), ("sum", 0, 1, "most", 60), ("bound", (0, "least", -10 ** 6)))
UNKEEPABLE = ((("apart", 0, 1, -2), ("apart", 1, 0, 1)), (("bound", (0, "least", 1)), ("bound", (0, "most", 0))))

# By name: the error, right values for two gauges, wrong values. The right ones with the same index fit each other.
PARAMETERS = {
    "gauges": (InvalidCount, (2,), WRONG_COUNTS),
    "bound": (InvalidBound, ((0, "least", 5), (1, "most", -4)), WRONG_BOUNDS),
    "bounds": (InvalidBound, ((), ((0, "least", 5), (1, "most", -4))), WRONG_BOUND_ROWS),
    "rule": (InvalidRule, RIGHT_RULES, WRONG_RULES),
    "book": (InvalidBook, ((), RIGHT_RULES, RIGHT_RULES[2:3]), WRONG_BOOKS),
    "readings": (InvalidReadings, ((3, -4),), WRONG_READINGS),
    "first": (InvalidReadings, ((3, -4),), WRONG_READINGS),
    "second": (InvalidReadings, ((1, 10 ** 20),), WRONG_READINGS),
    "third": (InvalidReadings, ((2, 0),), WRONG_READINGS),
    "gauge": (InvalidGauge, (0, 1), WRONG_GAUGES),
    "other_gauge": (InvalidGauge, (1, 0), WRONG_GAUGES),
    "way": (InvalidWay, ("least", "most"), WRONG_WAYS),
    "other_way": (InvalidWay, ("most", "least", "least", "most"), WRONG_WAYS),
    "number": (InvalidNumber, (5, -4, 0, 10 ** 30), WRONG_NUMBERS),
    "part": (InvalidReadings, (None, (None, None), (3, None), (3, -4)), WRONG_PARTS),
    "one": (InvalidBook, (KEEPABLE, (), UNKEEPABLE[0], RIGHT_RULES), WRONG_BOOKS),
    "other": (InvalidBook, ((), KEEPABLE, KEEPABLE, UNKEEPABLE[1]), WRONG_BOOKS),
    "open_gauges": (InvalidChoice, ((0,), (1,), (0, 1)), WRONG_CHOICES),
    "seen": (InvalidChoice, ([(1, 2)], [(1, 2), (3, -4), (10 ** 12, 0)]), WRONG_SEEN),
    "value": (None, (None, [1, [2]], (0, "least", 5), (1, 2), RIGHT_RULES), ()),
    "words": (None, ("a >= 5",), ()),
}

# Right values of some functions, where those of PARAMETERS do not fit them.
OWN_VALUES = {
    read_book: {"words": ("-", "a >= 5", "a <= b - 3 and either a <= 3 or b >= 10")},
    read_part: {"words": ("- -", "3 -", "3 -4")},
    read_rule: {"words": ("a >= 5", "a <= b - 3", "a + b <= -7", "either a <= 3 or b >= 10")},
    write_part: {"part": ((None, None), (3, None), (3, -4))},
}

SIGNATURES = (
    (is_bound, ("gauges", "value")), (is_rule, ("gauges", "value")), (is_book, ("gauges", "value")),
    (is_readings, ("gauges", "value")), (is_part, ("gauges", "value")), (contrary, ("gauges", "bound")),
    (holds, ("gauges", "rule", "readings")), (broken, ("gauges", "book", "readings")),
    (middle, ("gauges", "first", "second", "third")), (forced, ("gauges", "rule", "bound")),
    (keepable, ("gauges", "book")), (paper, ("gauges", "book")), (kept, ("gauges", "book", "part")),
    (can_be, ("gauges", "book", "bounds")), (blame, ("gauges", "book", "bounds")),
    (span, ("gauges", "book", "gauge")), (shows, ("gauges", "book", "gauge", "number")),
    (nearest, ("gauges", "book", "gauge", "number")), (extremes, ("gauges", "book", "gauge", "other_gauge")),
    (stair, ("gauges", "book", "bound", "other_gauge", "other_way")),
    (corners, ("gauges", "book", "gauge", "way", "other_gauge", "other_way")),
    (follows, ("gauges", "book", "rule")), (counter, ("gauges", "book", "rule")),
    (alike, ("gauges", "one", "other")), (parting, ("gauges", "one", "other")), (needless, ("gauges", "book")),
    (essence, ("gauges", "book")), (covered, ("gauges", "book", "open_gauges")), (learned, ("gauges", "seen")),
    (ring, ("gauges", "book")), (brought, ("gauges", "book", "bounds")), (clash, ("gauges", "book", "bound")),
    (write_rule, ("gauges", "rule")), (read_rule, ("gauges", "words")), (write_book, ("gauges", "book")),
    (read_book, ("gauges", "words")), (write_part, ("gauges", "part")), (read_part, ("gauges", "words")),
)

BY_NAME_ONLY = {middle: ("first", "second", "third")}

# They raise Unkeepable for a book that is not keepable.
OF_KEEPABLE_BOOKS = (span, shows, nearest, extremes, stair, corners)

FILES = {
    "rules": (is_bound, is_rule, is_book, is_readings, is_part, contrary, holds, broken, middle),
    "following": (forced, ring, brought, clash), "keeping": (keepable, paper, kept, can_be, blame),
    "spans": (span, shows, nearest), "stairs": (extremes, stair, corners),
    "books": (follows, counter, alike, parting, needless, essence, covered, learned),
    "words": (write_rule, read_rule, write_book, read_book, write_part, read_part),
}


def right_arguments(function, names, turn=0):
    """Right values by name; a turn picks others."""
    own = OWN_VALUES.get(function, {})
    values = {name: own.get(name, PARAMETERS[name][1]) for name in names}
    right = {name: values[name][turn % len(values[name])] for name in names}
    if function in OF_KEEPABLE_BOOKS:
        right["book"] = (KEEPABLE, (), KEEPABLE[:3])[turn % 3]
    return right


def call_by_position(function, names, arguments):
    by_name = BY_NAME_ONLY.get(function, ())
    return function(*[arguments[name] for name in names if name not in by_name],
                    **{name: arguments[name] for name in by_name})


def call_by_name(function, names, arguments):
    return function(**{name: arguments[name] for name in reversed(names)})


class Conventions(unittest.TestCase):
    def check_error(self, function, names, arguments, error):
        before = copy.deepcopy(arguments)
        for call in (call_by_position, call_by_name):
            with self.assertRaises(error, msg=f"{function.__name__}({arguments})") as caught:
                call(function, names, arguments)
            self.assertIs(type(caught.exception), error)
        self.assertEqual(repr(arguments), repr(before))

    def test_parameters_have_their_names_and_sequence(self):
        for function, names in SIGNATURES:
            self.assertEqual(tuple(inspect.signature(function).parameters), names)

    def test_each_function_is_defined_in_its_file(self):
        for module, functions in FILES.items():
            for function in functions:
                self.assertEqual(function.__module__, f"middlegauges.{module}")
        self.assertEqual(sum(map(len, FILES.values())), len(SIGNATURES))

    def test_each_parameter_wrong_by_itself(self):
        for function, names in SIGNATURES:
            for name in names:
                error, _, wrong = PARAMETERS[name]
                for turn, value in enumerate(wrong):
                    self.check_error(function, names, {**right_arguments(function, names, turn), name: value}, error)

    def test_of_several_the_first_in_the_signature_is_told(self):
        for function, names in SIGNATURES:
            for chosen in combinations(names, 2):
                if all(PARAMETERS[name][2] for name in chosen):
                    for turn in range(12):
                        self.check_wrong(function, names, chosen, turn)
            self.check_wrong(function, names, [name for name in names if PARAMETERS[name][2]], turn=0)

    def check_wrong(self, function, names, chosen, turn):
        arguments = right_arguments(function, names, turn)
        for name in chosen:
            wrong = PARAMETERS[name][2]
            arguments[name] = wrong[(7 * turn + len(name)) % len(wrong)]
        self.check_error(function, names, arguments, PARAMETERS[chosen[0]][0])

    def test_other_gauge_is_another_one(self):
        for turn in range(12):
            for function in (extremes, corners, stair):
                names = dict(SIGNATURES)[function]
                right = right_arguments(function, names, turn)
                same = right["bound"][0] if "bound" in right else right["gauge"]
                self.check_error(function, names, {**right, "other_gauge": same}, InvalidGauge)
                wrong = {**right, "other_gauge": same, "book": UNKEEPABLE[turn % 2], "other_way": "more"}
                self.check_error(function, names, {name: wrong[name] for name in names}, InvalidGauge)

    def test_unkeepable_behind_the_errors_about_parameters(self):
        for function in OF_KEEPABLE_BOOKS:
            names = dict(SIGNATURES)[function]
            for turn in range(12):
                arguments = {**right_arguments(function, names, turn), "book": UNKEEPABLE[turn % 2]}
                self.check_error(function, names, arguments, Unkeepable)
                for name in names:
                    wrong = PARAMETERS[name][2]
                    bad = {**arguments, name: wrong[(5 * turn) % len(wrong)]}
                    self.check_error(function, names, bad, PARAMETERS[name][0])

    def test_no_part_is_taken_as_none(self):
        self.assertIsNone(inspect.signature(kept).parameters["part"].default)
        self.assertEqual(kept(2, KEEPABLE), kept(2, KEEPABLE, part=None))

    def test_a_changed_result_changes_no_later_one(self):
        for function, names in SIGNATURES:
            for turn in range(12):
                arguments = right_arguments(function, names, turn)
                told = call_by_name(function, names, arguments)
                if type(told) is list:
                    before = repr(told)
                    told.append("more")
                    self.assertEqual(repr(call_by_name(function, names, arguments)), before)

    def test_what_fits_more_gauges_does_not_fit_less(self):
        wrong = (
            (lambda: contrary(1, (1, "least", 5)), InvalidBound), (lambda: ring(1, (("apart", 0, 1, 2),)), InvalidBook),
            (lambda: holds(1, ("sum", 0, 1, "most", 7), (1,)), InvalidRule),
            (lambda: holds(2, ("sum", 0, 1, "most", 7), (1,)), InvalidReadings),
            (lambda: brought(3, (), ((3, "least", 0),)), InvalidBound),
            (lambda: clash(3, (), (3, "least", 0)), InvalidBound),
            (lambda: forced(2, ("apart", 0, 2, 1), (0, "least", 1)), InvalidRule),
            (lambda: middle(2, first=(1, 2), second=(1, 2), third=(1, 2, 3)), InvalidReadings),
        )
        for call, error in wrong:
            with self.assertRaises(error):
                call()

    def test_by_position_and_by_name_tell_the_same_and_change_nothing(self):
        for function, names in SIGNATURES:
            for turn in range(12):
                arguments = right_arguments(function, names, turn)
                before = copy.deepcopy(arguments)
                told = call_by_position(function, names, arguments)
                self.assertEqual(told, call_by_name(function, names, arguments))
                self.assertEqual(repr(arguments), repr(before))

    def test_equal_arguments_give_equal_results(self):
        for function, names in SIGNATURES:
            for turn in range(12):
                arguments = right_arguments(function, names, turn)
                told = call_by_position(function, names, arguments)
                again = call_by_position(function, names, copy.deepcopy(arguments))
                self.assertEqual(repr(told), repr(again))

    def test_asked_about_values_are_not_changed(self):
        value = [[1, 2], ["bound", (0, "least", [5])]]
        before = copy.deepcopy(value)
        for function in (is_bound, is_rule, is_book, is_readings, is_part):
            self.assertIs(function(2, value), False)
            self.assertEqual(value, before)

    def test_counts_from_one_to_five_are_taken(self):
        for gauges in range(1, 6):
            self.assertIsNone(ring(gauges, ()))
            self.assertEqual(brought(gauges, (), ((gauges - 1, "least", 0),)), [(gauges - 1, "least", 0)])

    def test_nothing_is_raised_for_limits_of_use(self):
        far = 10 ** 60
        book = (("apart", 0, 1, -far), ("apart", 1, 0, far), ("either", (0, "most", far), (1, "least", 9 * far))) * 20
        self.assertEqual(brought(2, book, ((0, "least", far + 1),) * 30), [(0, "least", 8 * far), (1, "least", 9 * far)])
        self.assertIsNone(clash(2, book, (0, "least", far + 1)))
        self.assertEqual(broken(2, book, (far + 1, far + 1)), [k for k in range(60) if k % 3 != 1])


if __name__ == "__main__":
    unittest.main()
