"""The interface's row for tieskept/errors.py."""

import copy
import inspect
import unittest

from tests.anyvalues import any_values
from tieskept import errors

# Each error below TiesError, with the name of its argument, None if it has none.
TOLD = {
    "Unfit": None,
    "BadText": None,
    "BadNetwork": "error",
    "Unmendable": "word",
    "TooMany": "limit",
    "NoName": "given",
    "Taken": "given",
    "BadBatch": None,
    "Rejected": "place",
    "TooManyEdits": None,
    "NothingToUndo": None,
    "NothingToRedo": None,
    "NoVersion": "given",
}


class ErrorsTest(unittest.TestCase):
    def made(self):
        """Yield each error made without an argument, or with each value by place and by name, and what it has."""
        for name, argument in TOLD.items():
            error_class = getattr(errors, name)
            if argument is None:
                yield error_class, error_class(), {}
                continue
            for value in any_values():
                yield error_class, error_class(value), {argument: value}
                yield error_class, error_class(**{argument: value}), {argument: value}

    def test_ties_error_is_directly_under_value_error(self):
        self.assertEqual(errors.TiesError.__bases__, (ValueError,))

    def test_each_other_error_is_directly_under_ties_error_alone(self):
        for name in TOLD:
            with self.subTest(name):
                self.assertEqual(getattr(errors, name).__bases__, (errors.TiesError,))

    def test_the_errors_are_unlike_and_defined_in_their_file(self):
        defined = {
            name for name, value in vars(errors).items()
            if inspect.isclass(value) and value.__module__ == "tieskept.errors" and value.__name__ == name
        }
        self.assertEqual(defined, {"TiesError", *TOLD})

    def test_what_is_passed_by_place_or_by_name_is_kept_as_it_is(self):
        for error_class, error, told in self.made():
            self.assertIs(type(error), error_class)
            self.assertEqual(list(vars(error)), list(told), error_class)
            for name, value in told.items():
                self.assertIs(getattr(error, name), value, error_class)

    def test_what_is_passed_is_not_changed(self):
        for name, argument in TOLD.items():
            if argument is not None:
                for value, same in zip(any_values(), any_values()):
                    error = getattr(errors, name)(value)
                    str(error)
                    repr(error)
                    self.assertEqual(repr(getattr(error, argument)), repr(same), name)

    def test_the_told_arguments_are_needed(self):
        for name, argument in TOLD.items():
            if argument is not None:
                with self.subTest(name):
                    with self.assertRaises(TypeError):
                        getattr(errors, name)()
                    with self.assertRaises(TypeError):
                        getattr(errors, name)(1, 2)
                    with self.assertRaises(TypeError):
                        getattr(errors, name)(other=1)

    def test_each_one_is_raised_and_caught_as_what_it_is(self):
        for caught in (ValueError, errors.TiesError):
            for error_class, error, told in self.made():
                with self.assertRaises(caught) as context:
                    raise error
                self.assertIs(context.exception, error)
                self.assertIs(type(str(error)), str)

    def test_no_error_is_caught_as_another_one(self):
        for name in TOLD:
            for other in TOLD:
                self.assertEqual(issubclass(getattr(errors, name), getattr(errors, other)), name == other)

    def test_a_copy_has_what_the_error_has(self):
        for error_class, error, told in self.made():
            self.assertIs(type(copy.copy(error)), error_class)
            self.assertEqual(vars(copy.copy(error)), told)


if __name__ == "__main__":
    unittest.main()
