"""What the tests of the functions have in common."""

import copy
import inspect
import unittest

from tests.samples import slow_lets
from tieskept.errors import TiesError


def told_of(error):
    """Return an error as the document writes it: the name of its class, and what it was made with."""
    return f"{type(error).__name__}({', '.join(repr(value) for value in vars(error).values())})"


def answer(function, *arguments, **named):
    """Return how Python writes what the call returns, or "raises" and the error."""
    try:
        return repr(function(*arguments, **named))
    except TiesError as error:
        return "raises " + told_of(error)


class SameTest(unittest.TestCase):
    def assert_same(self, found, told, *why):
        # repr tells a tuple from a list and True from 1.
        self.assertEqual(repr(found), repr(told), why)

    def assert_raises(self, told, function, *arguments):
        self.assertEqual(answer(function, *arguments), "raises " + told, arguments)

    def assert_let(self, n, order, word):
        """The value is a word of n that the order lets."""
        self.assertIs(type(word), tuple)
        self.assertEqual([type(item) for item in word], [int] * n)
        self.assertLessEqual(set(word), {0, 1})
        self.assertTrue(slow_lets(set(order), word), (order, word))

    def assert_calls(self, function, **named):
        """The call tells the same by place, by name in any order, and once more; what is handed in stays."""
        kept = copy.deepcopy(named)
        told = answer(function, *named.values())
        backwards = dict(reversed(list(named.items())))
        first, *rest = named
        self.assertEqual(list(inspect.signature(function).parameters), list(named), function)
        self.assertEqual(answer(function, **named), told)
        self.assertEqual(answer(function, **backwards), told)
        self.assertEqual(answer(function, named[first], **{name: named[name] for name in rest}), told)
        self.assertEqual(answer(function, *kept.values()), told)
        self.assertEqual(answer(function, **kept), told)
        self.assert_same(named, kept)

    def assert_defined(self, module, *names):
        """The functions of these names are defined in the file of the module."""
        for name in names:
            self.assertTrue(inspect.isfunction(getattr(module, name)), name)
            self.assertEqual(getattr(module, name).__module__, module.__name__)
            self.assertEqual(getattr(module, name).__name__, name)
