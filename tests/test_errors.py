"""[0.6] and the interface's list of errors."""

import unittest

from helpers import ERRORS
from undocells import errors
from undocells.errors import UndoError

PACKAGE = {name: thing for name, thing in vars(errors).items() if isinstance(thing, type)}


class Errors(unittest.TestCase):

    def test_the_list_is_whole(self):
        self.assertEqual(set(PACKAGE), set(ERRORS) | {"UndoError"})

    def test_undo_error_stands_directly_under_value_error(self):
        self.assertEqual(UndoError.__bases__, (ValueError,))

    def test_each_stands_directly_under_undo_error(self):
        for name in ERRORS:
            self.assertEqual(PACKAGE[name].__bases__, (UndoError,), name)
            self.assertEqual(PACKAGE[name].__module__, "undocells.errors")

    def test_attributes_in_their_order_by_position(self):
        for name, attributes in ERRORS.items():
            values = [f"worth {k}" for k in range(len(attributes))]
            error = PACKAGE[name](*values)
            for attribute, worth in zip(attributes, values):
                self.assertEqual(getattr(error, attribute), worth, name)

    def test_attributes_by_name(self):
        for name, attributes in ERRORS.items():
            values = {attribute: f"worth of {attribute}" for attribute in attributes}
            error = PACKAGE[name](**values)
            for attribute, worth in values.items():
                self.assertEqual(getattr(error, attribute), worth, name)

    def test_nothing_is_checked(self):
        for name, attributes in ERRORS.items():
            for thing in (None, True, -1, [], "x", object()):
                error = PACKAGE[name](*[thing] * len(attributes))
                for attribute in attributes:
                    self.assertIs(getattr(error, attribute), thing)

    def test_attributes_are_all_wanted(self):
        for name, attributes in ERRORS.items():
            if attributes:
                with self.assertRaises(TypeError):
                    PACKAGE[name](*[1] * (len(attributes) - 1))
                with self.assertRaises(TypeError):
                    PACKAGE[name](*[1] * (len(attributes) + 1))

    def test_caught_by_undo_error_value_error_and_no_other_of_the_package(self):
        for name, attributes in ERRORS.items():
            error = PACKAGE[name](*[0] * len(attributes))
            self.assertIsInstance(error, ValueError)
            catching = [other for other, kind in PACKAGE.items() if isinstance(error, kind)]
            self.assertEqual(sorted(catching), sorted([name, "UndoError"]))

    def test_raised_and_caught(self):
        for name, attributes in ERRORS.items():
            for kind in (UndoError, ValueError, PACKAGE[name]):
                with self.assertRaises(kind):
                    raise PACKAGE[name](*[0] * len(attributes))


if __name__ == "__main__":
    unittest.main()
