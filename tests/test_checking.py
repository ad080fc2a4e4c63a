"""Points 19 and 21: the types of expressions."""

import unittest
from itertools import product

from tests.random_trees import FIELDS, random_tree
from tests.support import ExactCase, generator_of_numbers
from tideweir.errors import InvalidOperator
from tideweir.expressions.checking import type_of

KINDS = ("flag", "whole", "text", None)
COLUMN = {"flag": ("column", "f"), "whole": ("column", "w"), "text": ("column", "t"), None: ("value", None)}
CONSTANT = {"flag": ("value", True), "whole": ("value", 1), "text": ("value", "1"), None: ("value", None)}
MISSING = ("column", "missing")
WRONG = ("not", ("value", 1))


class Types(ExactCase):
    def differs(self, expression):
        self.refused(InvalidOperator, "types differ", type_of, expression, FIELDS)

    def missing(self, name, expression):
        self.refused(InvalidOperator, "there is no column " + name, type_of, expression, FIELDS)

    def check(self, expression, is_right, wanted):
        if is_right:
            self.same(type_of(expression, FIELDS), wanted)
        else:
            self.differs(expression)

    def of_two(self, signs, right, own):
        """Each sign is right for two parts of just the types that are right, or of every type."""
        for sign, a, b, table in product(signs, KINDS, KINDS, (COLUMN, CONSTANT)):
            self.check(("binary", sign, table[a], table[b]), right(a) and right(b) and (a is None or b in (a, None)),
                       own)

    def test_columns(self):
        for name, kind in FIELDS:
            self.same(type_of(("column", name), FIELDS), kind)
        self.missing("missing", MISSING)
        self.missing("whole", ("column", "whole"))
        self.refused(InvalidOperator, "there is no column w", type_of, ("column", "w"), (("a", "whole"),))

    def test_values(self):
        for value, wanted in ((True, "flag"), (False, "flag"), (0, "whole"), (1, "whole"), (-10 ** 9, "whole"),
                              ("", "text"), ("a", "text"), ("1", "text"), (None, None)):
            self.same(type_of(("value", value), FIELDS), wanted)

    def test_not(self):
        for kind, table in product(KINDS, (COLUMN, CONSTANT)):
            self.check(("not", table[kind]), kind in ("flag", None), "flag")

    def test_null(self):
        for kind, table in product(KINDS, (COLUMN, CONSTANT)):
            self.check(("null", table[kind]), True, "flag")

    def test_length(self):
        for kind, table in product(KINDS, (COLUMN, CONSTANT)):
            self.check(("length", table[kind]), kind in ("text", None), "whole")

    def test_arithmetic(self):
        self.of_two(("+", "-", "*", "/"), lambda kind: kind in ("whole", None), "whole")

    def test_comparisons(self):
        self.of_two(("==", "<", "<="), lambda kind: True, "flag")

    def test_and_and_or(self):
        self.of_two(("and", "or"), lambda kind: kind in ("flag", None), "flag")

    def test_true_is_no_whole_and_1_is_no_flag(self):
        self.differs(("binary", "+", ("value", 1), ("value", True)))
        self.differs(("binary", "and", ("value", True), ("value", 1)))
        self.differs(("binary", "==", ("value", 1), ("value", True)))
        self.differs(("not", ("value", 0)))

    def test_pick(self):
        for c, a, b, table in product(KINDS, KINDS, KINDS, (COLUMN, CONSTANT)):
            is_right = c in ("flag", None) and (a is None or b is None or a == b)
            self.check(("pick", table[c], table[a], table[b]), is_right, b if a is None else a)

    def test_a_pick_of_every_type_goes_with_anything(self):
        every = ("pick", ("column", "f"), ("value", None), ("value", None))
        self.same(type_of(every, FIELDS), None)
        self.same(type_of(("binary", "+", every, ("value", 1)), FIELDS), "whole")
        self.same(type_of(("not", every), FIELDS), "flag")
        self.same(type_of(("length", every), FIELDS), "whole")
        self.same(type_of(("binary", "==", ("value", "a"), every), FIELDS), "flag")
        self.same(type_of(("pick", every, every, ("value", "a")), FIELDS), "text")
        self.same(type_of(("pick", every, every, every), FIELDS), None)

    def test_other_parts_of_every_type_have_a_type_of_their_own(self):
        self.differs(("binary", "+", ("value", 1), ("null", ("value", None))))
        self.differs(("binary", "+", ("value", 1), ("not", ("value", None))))
        self.differs(("binary", "and", ("value", True), ("length", ("value", None))))
        self.differs(("binary", "==", ("value", "a"), ("binary", "+", ("value", None), ("value", None))))
        self.differs(("binary", "<", ("value", 1), ("binary", "==", ("value", None), ("value", None))))

    def test_parts_come_first(self):
        self.missing("missing", ("not", ("length", MISSING)))
        self.missing("missing", ("binary", "+", ("value", "a"), MISSING))
        self.missing("missing", ("binary", "+", MISSING, ("value", "a")))
        self.missing("missing", ("pick", ("value", 1), ("value", 1), MISSING))
        self.missing("missing", ("pick", ("value", 1), MISSING, ("value", "a")))
        self.missing("missing", ("null", ("null", MISSING)))
        self.missing("missing", ("length", MISSING))

    def test_the_first_fault_from_the_left(self):
        self.differs(("binary", "==", WRONG, MISSING))
        self.missing("missing", ("binary", "==", MISSING, WRONG))
        self.missing("x", ("binary", "==", ("column", "x"), ("column", "y")))
        self.missing("y", ("pick", ("column", "f"), ("column", "y"), ("column", "x")))
        self.missing("x", ("pick", ("column", "x"), WRONG, ("column", "y")))
        self.differs(("pick", WRONG, ("column", "x"), ("column", "y")))
        self.differs(("pick", ("column", "f"), WRONG, ("column", "y")))
        self.missing("y", ("pick", ("column", "f"), ("column", "y"), WRONG))
        self.missing("x", ("binary", "+", ("binary", "+", ("value", "a"), ("column", "x")), ("column", "y")))
        self.differs(("binary", "+", ("binary", "+", ("value", "a"), ("value", 1)), ("column", "y")))

    def test_a_fault_deep_inside(self):
        deep, broken, lost = ("column", "f"), WRONG, MISSING
        for _ in range(27):
            deep, broken, lost = ("not", deep), ("not", broken), ("not", lost)
        self.same(type_of(deep, FIELDS), "flag")
        self.differs(broken)
        self.missing("missing", lost)

    def test_thirty_levels(self):
        expression = ("column", "w")
        for level in range(29):
            expression = ("binary", "+-*/"[level // 8], expression, ("column", "v"))
        self.same(type_of(expression, FIELDS), "whole")
        right = ("column", "w")
        for _ in range(29):
            right = ("pick", ("column", "f"), ("value", None), right)
        self.same(type_of(right, FIELDS), "whole")

    def test_expressions_made_by_chance_have_their_type(self):
        numbers = generator_of_numbers(41)
        for _ in range(200):
            kind = numbers.choice(("flag", "whole", "text"))
            self.assertIn(type_of(random_tree(numbers, kind, 5), FIELDS), (kind, None))

    def test_arguments_are_left_alone(self):
        self.leaves_alone(type_of, ("binary", "+", ("column", "w"), ("value", 1)), FIELDS)


if __name__ == "__main__":
    unittest.main()
