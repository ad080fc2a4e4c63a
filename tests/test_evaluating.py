"""Points 19, 20 and 23: the values of expressions."""

import unittest
from itertools import product

from tests.random_trees import FIELDS, names_in, random_row, random_tree, value_at
from tests.support import ExactCase, generator_of_numbers
from tideweir.expressions.evaluating import evaluate
from tideweir.expressions.trees import columns_of

TWO = {kind: (("a", kind), ("b", kind)) for kind in ("flag", "whole", "text")}
A, B = ("column", "a"), ("column", "b")
NONE = ("value", None)
LIMIT = 10 ** 9


def whole(number):
    return ("value", number)


class Evaluate(ExactCase):
    def at(self, expression, wanted, fields=(("a", "whole"),), row=(1,)):
        self.same(evaluate(expression, fields, row), wanted)

    def two(self, sign, kind, a, b, wanted):
        """The sign between two columns, and between the same two values written out."""
        self.at(("binary", sign, A, B), wanted, TWO[kind], (a, b))
        self.at(("binary", sign, ("value", a), ("value", b)), wanted)

    def test_columns(self):
        row = (1, -5, "x", None, True, False)
        for (name, _), value in zip(FIELDS, row):
            self.at(("column", name), value, FIELDS, row)
        self.at(A, None, row=(None,))

    def test_values(self):
        for value in (None, True, False, 0, 1, -LIMIT, LIMIT, "", "a", "~ ~"):
            self.at(("value", value), value)

    def test_not(self):
        self.at(("not", ("value", True)), False)
        self.at(("not", ("value", False)), True)
        self.at(("not", NONE), None)
        self.at(("not", A), False, TWO["flag"], (True, None))

    def test_null(self):
        for value in (True, False, 0, 1, "", "a"):
            self.at(("null", ("value", value)), False)
        self.at(("null", NONE), True)
        self.at(("null", ("binary", "/", whole(1), whole(0))), True)
        self.at(("null", ("binary", "+", whole(1), whole(0))), False)
        self.at(("null", ("null", NONE)), False)

    def test_length(self):
        for text, wanted in (("", 0), ("a", 1), ("a b", 3), (" ", 1), ("x" * 40, 40), (None, None)):
            self.at(("length", ("value", text)), wanted)
            self.at(("length", A), wanted, TWO["text"], (text, "other"))

    def test_arithmetic(self):
        for a, b in product((-7, -1, 0, 1, 2, 12), repeat=2):
            self.two("+", "whole", a, b, a + b)
            self.two("-", "whole", a, b, a - b)
            self.two("*", "whole", a, b, a * b)

    def test_quotients_with_both_signs(self):
        for a, b, wanted in ((7, 2, 3), (-7, 2, -4), (7, -2, -4), (-7, -2, 3), (6, 2, 3), (-6, 2, -3), (6, -2, -3),
                             (-6, -2, 3), (1, 3, 0), (-1, 3, -1), (1, -3, -1), (-1, -3, 0), (0, 5, 0), (0, -5, 0),
                             (LIMIT, -1, -LIMIT), (-LIMIT, -1, LIMIT), (999999999, 10 ** 9, 0), (-1, 10 ** 9, -1)):
            self.two("/", "whole", a, b, wanted)

    def test_quotients_by_0(self):
        for a in (-1, 0, 1, LIMIT, None):
            self.two("/", "whole", a, 0, None)
        self.at(("binary", "/", whole(1), ("binary", "-", whole(3), whole(3))), None)

    def test_none_in_arithmetic_and_comparisons(self):
        for sign in ("+", "-", "*", "/", "==", "<", "<="):
            for a, b in ((None, 1), (1, None), (None, None), (0, None), (None, 0)):
                self.two(sign, "whole", a, b, None)
        for sign in ("==", "<", "<="):
            for kind, value in (("flag", True), ("flag", False), ("text", "a"), ("text", "")):
                self.two(sign, kind, None, value, None)
                self.two(sign, kind, value, None, None)

    def test_just_within_the_limit_and_just_beyond_it(self):
        for sign, a, b, wanted in (("+", LIMIT - 1, 1, LIMIT), ("+", LIMIT, 1, None), ("+", LIMIT, LIMIT, None),
                                   ("+", 1 - LIMIT, -1, -LIMIT), ("+", -LIMIT, -1, None), ("-", LIMIT, -1, None),
                                   ("-", LIMIT - 1, -1, LIMIT), ("-", -LIMIT, 1, None), ("-", 1 - LIMIT, 1, -LIMIT),
                                   ("*", 31622, 31622, 999950884), ("*", 31623, 31623, None),
                                   ("*", -31623, 31623, None), ("*", 31250, 32000, LIMIT), ("*", 31250, -32000, -LIMIT),
                                   ("*", LIMIT, LIMIT, None), ("*", LIMIT, 1, LIMIT), ("*", -LIMIT, 1, -LIMIT)):
            self.two(sign, "whole", a, b, wanted)

    def test_beyond_the_limit_inside_a_larger_expression(self):
        beyond = ("binary", "+", whole(LIMIT), whole(1))
        below = ("binary", "-", whole(-LIMIT), whole(1))
        for part in (beyond, below):
            self.at(("binary", "-", part, whole(5)), None)
            self.at(("binary", "+", whole(0), part), None)
            self.at(("binary", "*", part, whole(0)), None)
            self.at(("binary", "/", part, whole(2)), None)
            self.at(("binary", "<", part, whole(2)), None)
            self.at(("binary", "==", part, part), None)
            self.at(("null", part), True)
            self.at(("pick", ("null", part), whole(3), whole(4)), 3)
            self.at(("pick", ("value", True), part, whole(4)), None)
            self.at(("pick", ("value", False), part, whole(4)), 4)
        self.at(("binary", "+", beyond, below), None)

    def test_comparisons_of_integers(self):
        for a, b in product((-LIMIT, -10, -9, -1, 0, 1, 9, 10, LIMIT), repeat=2):
            self.two("==", "whole", a, b, a == b)
            self.two("<", "whole", a, b, a < b)
            self.two("<=", "whole", a, b, a <= b)

    def test_comparisons_of_texts(self):
        rising = ("", " ", "1", "10", "2", "A", "Z", "a", "a ", "aa", "b", "~")
        for (i, a), (j, b) in product(enumerate(rising), enumerate(rising)):
            self.two("==", "text", a, b, i == j)
            self.two("<", "text", a, b, i < j)
            self.two("<=", "text", a, b, i <= j)

    def test_comparisons_of_flags(self):
        for a, b in product((False, True), repeat=2):
            self.two("==", "flag", a, b, a is b)
            self.two("<", "flag", a, b, b and not a)
            self.two("<=", "flag", a, b, b or not a)

    def test_and(self):
        for a, b, wanted in ((True, True, True), (True, False, False), (False, True, False), (False, False, False),
                             (None, True, None), (True, None, None), (None, None, None), (None, False, False),
                             (False, None, False)):
            self.two("and", "flag", a, b, wanted)

    def test_or(self):
        for a, b, wanted in ((True, True, True), (True, False, True), (False, True, True), (False, False, False),
                             (None, True, True), (True, None, True), (None, None, None), (None, False, None),
                             (False, None, None)):
            self.two("or", "flag", a, b, wanted)

    def test_pick(self):
        for c, wanted in ((True, 10), (False, 20), (None, 20)):
            self.at(("pick", ("value", c), whole(10), whole(20)), wanted)
            self.at(("pick", ("column", "f"), whole(10), whole(20)), wanted, (("f", "flag"),), (c,))
        for a, b in ((None, 1), (1, None), (None, None), (True, False), (False, None), ("a", "b"), (1, 1)):
            self.at(("pick", ("value", True), ("value", a), ("value", b)), a)
            self.at(("pick", ("value", False), ("value", a), ("value", b)), b)
            self.at(("pick", NONE, ("value", a), ("value", b)), b)

    def test_thirty_levels(self):
        summed, picked, negated = whole(0), whole(5), ("column", "f")
        for _ in range(29):
            summed = ("binary", "+", summed, ("column", "a"))
            picked = ("pick", ("null", ("column", "a")), whole(0), picked)
            negated = ("not", negated)
        self.at(summed, 58, row=(2,))
        self.at(picked, 5)
        self.at(negated, True, (("f", "flag"),), (False,))
        self.at(negated, None, (("f", "flag"),), (None,))

    def test_expressions_made_by_chance(self):
        numbers = generator_of_numbers(51)
        names = [name for name, _ in FIELDS]
        for _ in range(600):
            tree = random_tree(numbers, numbers.choice(("flag", "whole", "text")), numbers.randint(1, 5))
            row = random_row(numbers)
            self.at(tree, value_at(tree, dict(zip(names, row))), FIELDS, row)

    def test_it_depends_on_the_columns_of_the_expression_alone(self):
        numbers = generator_of_numbers(52)
        for _ in range(300):
            tree = random_tree(numbers, numbers.choice(("flag", "whole", "text")), 3)
            row, other = random_row(numbers), random_row(numbers)
            self.assertEqual(set(columns_of(tree)), set(names_in(tree)))
            mixed = tuple(row[k] if FIELDS[k][0] in columns_of(tree) else other[k] for k in range(len(FIELDS)))
            self.same(evaluate(tree, FIELDS, mixed), evaluate(tree, FIELDS, row))
            turned_about = tuple(reversed(FIELDS))
            self.same(evaluate(tree, turned_about, row[::-1]), evaluate(tree, FIELDS, row))

    def test_arguments_are_left_alone(self):
        self.leaves_alone(evaluate, ("binary", "+", A, whole(1)), (("a", "whole"),), (1,))


if __name__ == "__main__":
    unittest.main()
