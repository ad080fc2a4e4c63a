"""What the tests share: comparing exactly, and finding out whether a call changes or keeps its arguments."""

import random
import unittest
from copy import deepcopy

VALUES = (None, False, True, -10 ** 9, -41, -2, -1, 0, 1, 2, 9, 10, 41, 10 ** 9,
          "", " ", "!", "0", "1", "A", "Z", "a", "a ", "aa", "ab", "b", "n", "true", "~")


def rank(value):
    """The order of values, written down once more in another way than in the program."""
    if value is None:
        return 0
    if isinstance(value, bool):
        return 2 if value else 1
    return 3 if isinstance(value, int) else 4


def is_ahead(a, b):
    """Whether the value a is ahead of the value b."""
    if rank(a) != rank(b):
        return rank(a) < rank(b)
    return rank(a) > 2 and a < b


def is_row_ahead(a, b):
    """Whether the row a is ahead of the row b."""
    for one, other in zip(a, b):
        if is_ahead(one, other) or is_ahead(other, one):
            return is_ahead(one, other)
    return len(a) < len(b)


def spoil(x):
    """Change every list and dict in x, as a caller may do with what it was given."""
    if isinstance(x, (list, tuple)):
        for item in x:
            spoil(item)
    if isinstance(x, dict):
        for item in x.values():
            spoil(item)
        x.clear()
        x["spoiled"] = "spoiled"
    if isinstance(x, list):
        x.clear()
        x.append("spoiled")


def generator_of_numbers(seed):
    """Numbers that are the same in every run of the tests."""
    return random.Random(seed)


class ExactCase(unittest.TestCase):
    """A test case that does not take True for 1, nor a tuple for a list."""

    def same(self, found, wanted):
        self.assertEqual(repr(found), repr(wanted))

    def refused(self, error, message, function, *arguments):
        """The call raises just this error with this message, and leaves its arguments alone."""
        before = repr(arguments)
        with self.assertRaises(error) as caught:
            function(*arguments)
        self.assertIs(type(caught.exception), error)
        self.same(caught.exception.message, message)
        self.assertEqual(repr(arguments), before)

    def leaves_alone(self, function, *arguments):
        """The call changes no argument and keeps none, and what it returns is new each time."""
        before = repr(arguments)
        first = function(*arguments)
        told = repr(first)
        self.assertEqual(repr(arguments), before)
        second = function(*arguments)
        spoil(second)
        self.assertEqual(repr(arguments), before)
        self.assertEqual(repr(first), told)
        self.assertEqual(repr(function(*arguments)), told)
        mine = deepcopy(arguments)
        third = function(*mine)
        spoil(mine)
        self.assertEqual(repr(third), told)
