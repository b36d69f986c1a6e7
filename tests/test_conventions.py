"""[2]: errors and their sequence, arguments by position and by name, nothing modified, equal results."""

import copy
import inspect
import unittest
from itertools import combinations

from middlegauges.errors import InvalidBook, InvalidBound, InvalidCount, InvalidReadings, InvalidRule
from middlegauges.following import brought, clash, forced, ring
from middlegauges.rules import broken, contrary, holds, is_book, is_bound, is_part, is_readings, is_rule, middle

from tests.samples import (
    RIGHT_RULES, WRONG_BOOKS, WRONG_BOUND_ROWS, WRONG_BOUNDS, WRONG_COUNTS, WRONG_READINGS, WRONG_RULES)

# By name: the error, right values for two gauges, wrong values.
PARAMETERS = {
    "gauges": (InvalidCount, (2,), WRONG_COUNTS),
    "bound": (InvalidBound, ((0, "least", 5), (1, "most", -4)), WRONG_BOUNDS),
    "bounds": (InvalidBound, ((), ((0, "least", 5), (1, "most", -4))), WRONG_BOUND_ROWS),
    "rule": (InvalidRule, RIGHT_RULES, WRONG_RULES),
    "book": (InvalidBook, ((), RIGHT_RULES, RIGHT_RULES[2:3]), WRONG_BOOKS),
    "readings": (InvalidReadings, ((3, -4),), WRONG_READINGS),
    "first": (InvalidReadings, ((3, -4),), WRONG_READINGS),
    "second": (InvalidReadings, ((1, 10 ** 20),), WRONG_READINGS),
    "third": (InvalidReadings, ((2, 0),), WRONG_READINGS),
    "value": (None, (None, [1, [2]], (0, "least", 5), (1, 2), RIGHT_RULES), ()),
}

SIGNATURES = (
    (is_bound, ("gauges", "value")), (is_rule, ("gauges", "value")), (is_book, ("gauges", "value")),
    (is_readings, ("gauges", "value")), (is_part, ("gauges", "value")), (contrary, ("gauges", "bound")),
    (holds, ("gauges", "rule", "readings")), (broken, ("gauges", "book", "readings")),
    (middle, ("gauges", "first", "second", "third")), (forced, ("gauges", "rule", "bound")),
    (ring, ("gauges", "book")), (brought, ("gauges", "book", "bounds")), (clash, ("gauges", "book", "bound")),
)

BY_NAME_ONLY = {middle: ("first", "second", "third")}


def right_arguments(names, turn=0):
    """Right values by name; a turn picks others."""
    return {name: PARAMETERS[name][1][turn % len(PARAMETERS[name][1])] for name in names}


def call_by_position(function, names, arguments):
    by_name = BY_NAME_ONLY.get(function, ())
    return function(*[arguments[name] for name in names if name not in by_name],
                    **{name: arguments[name] for name in by_name})


def call_by_name(function, names, arguments):
    return function(**{name: arguments[name] for name in reversed(names)})


class Conventions(unittest.TestCase):
    def check_error(self, function, names, arguments, error):
        before = copy.deepcopy(arguments)
        for call in (call_by_position, call_by_name):
            with self.assertRaises(error, msg=f"{function.__name__}({arguments})") as caught:
                call(function, names, arguments)
            self.assertIs(type(caught.exception), error)
        self.assertEqual(repr(arguments), repr(before))

    def test_parameters_have_their_names_and_sequence(self):
        for function, names in SIGNATURES:
            self.assertEqual(tuple(inspect.signature(function).parameters), names)

    def test_each_function_is_defined_in_its_file(self):
        for function, _ in SIGNATURES:
            module = "following" if function in (forced, ring, brought, clash) else "rules"
            self.assertEqual(function.__module__, f"middlegauges.{module}")

    def test_each_parameter_wrong_by_itself(self):
        for function, names in SIGNATURES:
            for name in names:
                error, _, wrong = PARAMETERS[name]
                for turn, value in enumerate(wrong):
                    self.check_error(function, names, {**right_arguments(names, turn), name: value}, error)

    def test_of_several_the_first_in_the_signature_is_told(self):
        for function, names in SIGNATURES:
            for chosen in combinations(names, 2):
                if all(PARAMETERS[name][2] for name in chosen):
                    for turn in range(12):
                        self.check_wrong(function, names, chosen, turn)
            if "value" not in names:
                self.check_wrong(function, names, names, turn=0)

    def check_wrong(self, function, names, chosen, turn):
        arguments = right_arguments(names, turn)
        for name in chosen:
            wrong = PARAMETERS[name][2]
            arguments[name] = wrong[(7 * turn + len(name)) % len(wrong)]
        self.check_error(function, names, arguments, PARAMETERS[chosen[0]][0])

    def test_what_fits_more_gauges_does_not_fit_less(self):
        wrong = (
            (lambda: contrary(1, (1, "least", 5)), InvalidBound), (lambda: ring(1, (("apart", 0, 1, 2),)), InvalidBook),
            (lambda: holds(1, ("sum", 0, 1, "most", 7), (1,)), InvalidRule),
            (lambda: holds(2, ("sum", 0, 1, "most", 7), (1,)), InvalidReadings),
            (lambda: brought(3, (), ((3, "least", 0),)), InvalidBound),
            (lambda: clash(3, (), (3, "least", 0)), InvalidBound),
            (lambda: forced(2, ("apart", 0, 2, 1), (0, "least", 1)), InvalidRule),
            (lambda: middle(2, first=(1, 2), second=(1, 2), third=(1, 2, 3)), InvalidReadings),
        )
        for call, error in wrong:
            with self.assertRaises(error):
                call()

    def test_by_position_and_by_name_tell_the_same_and_change_nothing(self):
        for function, names in SIGNATURES:
            for turn in range(12):
                arguments = right_arguments(names, turn)
                before = copy.deepcopy(arguments)
                told = call_by_position(function, names, arguments)
                self.assertEqual(told, call_by_name(function, names, arguments))
                self.assertEqual(repr(arguments), repr(before))

    def test_equal_arguments_give_equal_results(self):
        for function, names in SIGNATURES:
            for turn in range(12):
                arguments = right_arguments(names, turn)
                told = call_by_position(function, names, arguments)
                again = call_by_position(function, names, copy.deepcopy(arguments))
                self.assertEqual(repr(told), repr(again))

    def test_asked_about_values_are_not_changed(self):
        value = [[1, 2], ["bound", (0, "least", [5])]]
        before = copy.deepcopy(value)
        for function in (is_bound, is_rule, is_book, is_readings, is_part):
            self.assertIs(function(2, value), False)
            self.assertEqual(value, before)

    def test_counts_from_one_to_five_are_taken(self):
        for gauges in range(1, 6):
            self.assertIsNone(ring(gauges, ()))
            self.assertEqual(brought(gauges, (), ((gauges - 1, "least", 0),)), [(gauges - 1, "least", 0)])

    def test_nothing_is_raised_for_limits_of_use(self):
        far = 10 ** 60
        book = (("apart", 0, 1, -far), ("apart", 1, 0, far), ("either", (0, "most", far), (1, "least", 9 * far))) * 20
        self.assertEqual(brought(2, book, ((0, "least", far + 1),) * 30), [(0, "least", 8 * far), (1, "least", 9 * far)])
        self.assertIsNone(clash(2, book, (0, "least", far + 1)))
        self.assertEqual(broken(2, book, (far + 1, far + 1)), [k for k in range(60) if k % 3 != 1])


if __name__ == "__main__":
    unittest.main()
