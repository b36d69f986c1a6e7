"""[8]: the errors."""

import unittest

from middlegauges import errors

PLAIN = ("InvalidCount", "InvalidGauge", "InvalidWay", "InvalidNumber", "InvalidBound", "InvalidRule", "InvalidBook",
         "InvalidReadings", "InvalidChoice", "InvalidMove", "Unkeepable", "NothingToUndo", "NoBlock", "InvalidCommand")

KEEPING = (("Contradicted", "blamed"), ("InvalidWords", "place"))


def all_classes():
    return [getattr(errors, name) for name in (*PLAIN, "Contradicted", "InvalidWords")]


def made(error_class):
    return error_class(0) if error_class is errors.InvalidWords else error_class("why")


class Errors(unittest.TestCase):
    def test_they_are_sixteen_directly_under_gauge_error(self):
        self.assertEqual(len(set(all_classes())), 16)
        for error_class in all_classes():
            self.assertEqual(error_class.__bases__, (errors.GaugeError,))
        self.assertEqual(errors.GaugeError.__bases__, (ValueError,))

    def test_they_are_defined_in_their_file(self):
        for error_class in (errors.GaugeError, *all_classes()):
            self.assertEqual(error_class.__module__, "middlegauges.errors")

    def test_each_is_caught_as_itself_as_gauge_error_and_as_value_error(self):
        for error_class in all_classes():
            for caught in (error_class, errors.GaugeError, ValueError):
                with self.assertRaises(caught):
                    raise made(error_class)

    def test_none_is_caught_by_another_one(self):
        for error_class in all_classes():
            for other in all_classes():
                self.assertEqual(issubclass(error_class, other), error_class is other)

    def test_gauge_error_is_caught_by_none_of_them(self):
        for error_class in all_classes():
            self.assertNotIsInstance(errors.GaugeError("why"), error_class)

    def test_plain_ones_keep_their_string(self):
        for name in PLAIN:
            self.assertEqual(str(getattr(errors, name)("so it is")), "so it is")

    def test_arguments_by_position_and_by_name_are_kept(self):
        for name, argument in KEEPING:
            error_class = getattr(errors, name)
            for value in ((), (0,), (1, 3), 0, 7):
                self.assertEqual(getattr(error_class(value), argument), value)
                self.assertEqual(getattr(error_class(**{argument: value}), argument), value)

    def test_arguments_are_kept_when_raised(self):
        with self.assertRaises(errors.Contradicted) as caught:
            raise errors.Contradicted((0, 2))
        self.assertEqual(caught.exception.blamed, (0, 2))
        with self.assertRaises(errors.InvalidWords) as caught:
            raise errors.InvalidWords(place=4)
        self.assertEqual(caught.exception.place, 4)

    def test_each_needs_its_one_argument(self):
        for name, argument in KEEPING:
            error_class = getattr(errors, name)
            with self.assertRaises(TypeError):
                error_class()
            with self.assertRaises(TypeError):
                error_class(1, 2)
            with self.assertRaises(TypeError):
                error_class(**{argument + "s": 1})

    def test_both_have_a_message(self):
        for error_class in (errors.Contradicted, errors.InvalidWords):
            self.assertIsInstance(str(error_class(0)), str)


if __name__ == "__main__":
    unittest.main()
