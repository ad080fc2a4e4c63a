"""Points 22 and 23: the columns of expressions, and substitution."""

import unittest

from tests.random_trees import FIELDS, names_in, random_row, random_tree
from tests.support import ExactCase, generator_of_numbers
from tideweir.expressions.checking import type_of
from tideweir.expressions.evaluating import evaluate
from tideweir.expressions.trees import columns_of, substituted

A, B, C = ("column", "a"), ("column", "b"), ("column", "c")


class Columns(ExactCase):
    def test_none(self):
        self.same(columns_of(("value", 1)), [])
        self.same(columns_of(("value", "a")), [])
        self.same(columns_of(("null", ("value", None))), [])

    def test_each_kind_of_expression(self):
        self.same(columns_of(A), ["a"])
        self.same(columns_of(("not", A)), ["a"])
        self.same(columns_of(("null", A)), ["a"])
        self.same(columns_of(("length", A)), ["a"])
        for sign in ("+", "-", "*", "/", "==", "<", "<=", "and", "or"):
            self.same(columns_of(("binary", sign, B, A)), ["b", "a"])
        self.same(columns_of(("pick", C, B, A)), ["c", "b", "a"])

    def test_each_once_in_the_order_of_their_first_place(self):
        self.same(columns_of(("binary", "+", A, A)), ["a"])
        self.same(columns_of(("binary", "+", ("binary", "+", B, A), ("binary", "+", A, C))), ["b", "a", "c"])
        self.same(columns_of(("pick", ("binary", "==", C, A), ("binary", "+", C, B), A)), ["c", "a", "b"])
        self.same(columns_of(("pick", ("null", B), ("value", 1), ("binary", "*", A, B))), ["b", "a"])

    def test_words_that_are_not_names(self):
        self.same(columns_of(("binary", "and", ("column", "not"), ("column", "value"))), ["not", "value"])
        self.same(columns_of(("column", "column")), ["column"])
        self.same(columns_of(("value", "column")), [])

    def test_by_chance(self):
        numbers = generator_of_numbers(61)
        for _ in range(200):
            tree = random_tree(numbers, numbers.choice(("flag", "whole", "text")), 4)
            self.same(columns_of(tree), list(dict.fromkeys(names_in(tree))))

    def test_arguments_are_left_alone(self):
        self.leaves_alone(columns_of, ("binary", "+", A, ("pick", B, A, C)))
        self.leaves_alone(columns_of, A)


class Substituted(ExactCase):
    def test_each_kind_of_expression(self):
        put = ("value", 7)
        self.same(substituted(A, {"a": put}), put)
        self.same(substituted(("not", A), {"a": put}), ("not", put))
        self.same(substituted(("null", A), {"a": put}), ("null", put))
        self.same(substituted(("length", A), {"a": put}), ("length", put))
        self.same(substituted(("value", "a"), {"a": put}), ("value", "a"))
        self.same(substituted(("value", None), {"a": put}), ("value", None))
        for sign in ("+", "-", "*", "/", "==", "<", "<=", "and", "or"):
            self.same(substituted(("binary", sign, A, B), {"a": put}), ("binary", sign, put, B))
            self.same(substituted(("binary", sign, B, A), {"a": put}), ("binary", sign, B, put))
        self.same(substituted(("pick", A, B, A), {"a": put}), ("pick", put, B, put))
        self.same(substituted(("pick", A, B, C), {"b": put, "c": A}), ("pick", A, put, A))

    def test_other_columns_stay(self):
        tree = ("pick", ("null", A), ("binary", "+", B, C), C)
        self.same(substituted(tree, {}), tree)
        self.same(substituted(tree, {"d": ("value", 1)}), tree)
        self.same(substituted(tree, {"b": ("value", 1)}), ("pick", ("null", A), ("binary", "+", ("value", 1), C), C))

    def test_all_at_once(self):
        tree = ("binary", "-", A, ("binary", "*", B, A))
        self.same(substituted(tree, {"a": B, "b": A}), ("binary", "-", B, ("binary", "*", A, B)))
        self.same(substituted(tree, {"b": A, "a": C}), ("binary", "-", C, ("binary", "*", A, C)))
        self.same(substituted(A, {"a": B, "b": C, "c": A}), B)

    def test_names_that_stand_in_what_is_put_in(self):
        grown = ("binary", "+", A, ("value", 1))
        self.same(substituted(A, {"a": grown}), grown)
        self.same(substituted(grown, {"a": grown}), ("binary", "+", grown, ("value", 1)))
        self.same(substituted(("binary", "+", A, B), {"a": ("not", B), "b": ("not", A)}),
                  ("binary", "+", ("not", B), ("not", A)))

    def test_true_stays_true(self):
        self.same(substituted(("binary", "and", A, ("value", True)), {"a": ("value", False)}),
                  ("binary", "and", ("value", False), ("value", True)))
        self.same(substituted(("binary", "+", A, ("value", 1)), {"a": ("value", 0)}),
                  ("binary", "+", ("value", 0), ("value", 1)))

    def test_thirty_levels(self):
        tree, wanted = A, B
        for _ in range(29):
            tree, wanted = ("not", tree), ("not", wanted)
        self.same(substituted(tree, {"a": B}), wanted)
        self.same(columns_of(tree), ["a"])

    def test_the_value_of_a_substituted_expression(self):
        numbers = generator_of_numbers(62)
        for _ in range(300):
            tree = random_tree(numbers, numbers.choice(("flag", "whole", "text")), 3)
            put = {name: random_tree(numbers, kind, 2) for name, kind in FIELDS if numbers.random() < 0.6}
            row = random_row(numbers)
            inner = tuple(evaluate(put[name], FIELDS, row) if name in put else value
                          for (name, _), value in zip(FIELDS, row))
            self.same(evaluate(substituted(tree, put), FIELDS, row), evaluate(tree, FIELDS, inner))
            self.assertIn(type_of(substituted(tree, put), FIELDS), (type_of(tree, FIELDS), None))

    def test_its_columns(self):
        numbers = generator_of_numbers(63)
        for _ in range(100):
            tree = random_tree(numbers, "whole", 3)
            put = {name: random_tree(numbers, kind, 2) for name, kind in FIELDS if numbers.random() < 0.6}
            wanted = [name for old in names_in(tree) for name in (names_in(put[old]) if old in put else [old])]
            self.same(columns_of(substituted(tree, put)), list(dict.fromkeys(wanted)))

    def test_arguments_are_left_alone(self):
        self.leaves_alone(substituted, ("binary", "+", A, B), {"a": ("not", B)})


if __name__ == "__main__":
    unittest.main()
