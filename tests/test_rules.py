"""Points 43 to 45: rules, steps and certificates."""

import unittest

from tests.plain_rules import RULES as WORDS_OF_RULES
from tests.plain_rules import plain_step, plain_steps
from tests.random_plans import random_flows, random_plan
from tests.support import ExactCase, generator_of_numbers
from tideweir.plans.plans import fields_of, meaning
from tideweir.plans.rules import RULES, apply_rule, check_certificate, steps_of
from tideweir.plans.tidying import is_tidy, tidied

LEFT = (("a", "whole"), ("b", "text"), ("c", "flag"))
RIGHT = (("d", "whole"), ("e", "text"), ("f", "flag"))
S, T = (("source", "s", LEFT), ()), (("source", "t", RIGHT), ())
A, B, C, D, E = [("column", name) for name in "abcde"]
COUNT = ("n", "count", None)
ON = (("a", "d"),)
TRUE = ("value", True)
SAME = ("map", (("a", A), ("b", B), ("c", C)))


def less(column, number):
    """An expression that is a flag."""
    return ("binary", "<", column, ("value", number))


def by(expression):
    """A filter."""
    return ("filter", expression)


class RuleCase(ExactCase):
    rule = None

    def gives(self, plan, node, wanted):
        """The rule can be applied, and gives a plan of the same meaning; it is among the steps."""
        self.same(tidied(plan), plan)
        found = apply_rule(plan, self.rule, node)
        self.same(found, wanted)
        self.same(plain_step(plan, self.rule, node), wanted)
        self.assertIn((self.rule, node), steps_of(plan))
        self.same(fields_of(found)[-1], fields_of(plan)[-1])
        numbers = generator_of_numbers(len(repr(plan)))
        for _ in range(8):
            flows = random_flows(numbers, 10)
            own = {"s": [(time, row + (None if row[0] == 1 else row[0] == 2,), weight)
                         for time, row, weight in flows["s"]],
                   "t": [(time, row + (None if row[0] == 2 else row[0] == 1,), weight)
                         for time, row, weight in flows["t"]]}
            self.same(meaning(found, own), meaning(plan, own))

    def cannot(self, plan, node):
        self.same(tidied(plan), plan)
        fields_of(plan)
        self.same(apply_rule(plan, self.rule, node), None)
        self.assertNotIn((self.rule, node), steps_of(plan))

    def nowhere(self, *plans):
        for plan in plans:
            for node in range(len(plan)):
                self.cannot(plan, node)


class All(RuleCase):
    rule = "all"

    def test_a_filter_by_true(self):
        self.gives((S, (by(TRUE), (0,))), 1, (S,))
        self.gives((S, (by(C), (0,)), (by(TRUE), (1,)), (("distinct",), (2,))), 2, (S, (by(C), (0,)), (("distinct",),
                                                                                                  (1,))))
        self.gives((S, (by(TRUE), (0,)), (("union",), (0, 1))), 1, (S, (("union",), (0, 0))))

    def test_its_input_does_not_stand_just_before(self):
        self.gives((S, (by(C), (0,)), (("distinct",), (1,)), (by(TRUE), (1,)), (("union",), (2, 3))), 3,
                   (S, (by(C), (0,)), (("distinct",), (1,)), (("union",), (2, 1))))

    def test_other_filters(self):
        self.nowhere((S, (by(("value", False)), (0,))), (S, (by(("value", None)), (0,))), (S, (by(C), (0,))),
                     (S, (by(("binary", "or", TRUE, C)), (0,))), (S, (by(("not", ("value", False))), (0,))),
                     (S, (("map", (("x", TRUE),)), (0,))))


class Same(RuleCase):
    rule = "same"

    def test_a_map_to_the_same_columns(self):
        self.gives((S, (SAME, (0,))), 1, (S,))
        self.gives((S, (by(C), (0,)), (SAME, (1,))), 2, (S, (by(C), (0,))))
        self.gives((S, (("distinct",), (0,)), (SAME, (1,)), (by(C), (2,))), 2,
                   (S, (("distinct",), (0,)), (by(C), (1,))))

    def test_other_maps(self):
        for to in ((("a", A), ("b", B)), (("a", A), ("c", C), ("b", B)), (("a", A), ("b", B), ("x", C)),
                   (("a", A), ("b", ("value", None)), ("c", C)), (("a", A), ("b", B), ("c", C), ("x", C)),
                   (("a", ("binary", "+", A, ("value", 0))), ("b", B), ("c", C)), (("x", A), ("b", B), ("c", C)),
                   (("c", C), ("b", B), ("a", A))):
            self.nowhere((S, (("map", to), (0,))))
        self.nowhere((S, (by(C), (0,))), (S, (("distinct",), (0,))))


class Filters(RuleCase):
    rule = "filters"

    def test_a_filter_of_a_filter(self):
        self.gives((S, (by(C), (0,)), (by(less(A, 2)), (1,))), 2, (S, (by(("binary", "and", C, less(A, 2))), (0,))))
        self.gives((S, (by(C), (0,)), (by(C), (1,)), (by(less(A, 2)), (2,))), 3,
                   (S, (by(C), (0,)), (by(("binary", "and", C, less(A, 2))), (1,))))

    def test_the_inner_one_stays_where_others_rest_on_it(self):
        plan = (S, (by(C), (0,)), (by(less(A, 2)), (1,)), (("union",), (1, 2)))
        self.gives(plan, 2, (S, (by(C), (0,)), (by(("binary", "and", C, less(A, 2))), (0,)), (("union",), (1, 2))))

    def test_all_that_rested_on_it_rest_on_the_new_one(self):
        plan = (S, (by(C), (0,)), (by(less(A, 2)), (1,)), (("union",), (2, 2)), (("distinct",), (2,)),
                (("union",), (3, 4)))
        self.gives(plan, 2, (S, (by(("binary", "and", C, less(A, 2))), (0,)), (("union",), (1, 1)),
                             (("distinct",), (1,)), (("union",), (2, 3))))

    def test_others(self):
        self.cannot((S, (by(C), (0,)), (by(C), (1,))), 1)
        self.nowhere((S, (by(C), (0,)), (("distinct",), (1,))), (S, (("distinct",), (0,)), (by(C), (1,))))
        plan = (S, (by(C), (0,)), (("distinct",), (1,)), (by(C), (2,)))
        self.nowhere(plan)


class Maps(RuleCase):
    rule = "maps"

    def test_a_map_of_a_map(self):
        inner = ("map", (("x", less(A, 2)), ("y", B), ("a", ("length", B))))
        outer = ("map", (("a", ("column", "x")), ("z", ("pick", ("column", "x"), ("column", "y"), ("column", "y"))),
                         ("x", ("column", "a")), ("k", ("value", 7))))
        merged = ("map", (("a", less(A, 2)), ("z", ("pick", less(A, 2), B, B)), ("x", ("length", B)),
                          ("k", ("value", 7))))
        self.gives((S, (inner, (0,)), (outer, (1,))), 2, (S, (merged, (0,))))

    def test_what_is_of_every_type(self):
        inner = ("map", (("x", ("value", None)), ("y", A)))
        self.gives((S, (inner, (0,)), (("map", (("z", ("column", "x")), ("w", ("not", ("column", "x"))))), (1,))), 2,
                   (S, (("map", (("z", ("value", None)), ("w", ("not", ("value", None))))), (0,))))

    def test_the_root_keeps_its_fields(self):
        turned = ("map", (("a", B), ("b", A)))
        self.gives((S, (turned, (0,)), (turned, (1,))), 2, (S, (("map", (("a", A), ("b", B))), (0,))))

    def test_others(self):
        self.cannot((S, (SAME, (0,)), (("map", (("x", A),)), (1,))), 1)
        self.nowhere((S, (SAME, (0,)), (by(C), (1,))), (S, (by(C), (0,)), (SAME, (1,))))


class UnderMap(RuleCase):
    rule = "under map"

    def test_a_filter_of_a_map(self):
        inner = ("map", (("x", ("binary", "+", A, A)), ("a", ("value", 1)), ("y", C)))
        test = ("binary", "or", less(("column", "x"), 3), ("binary", "==", ("column", "a"), ("column", "x")))
        put_in = ("binary", "or", less(("binary", "+", A, A), 3),
                  ("binary", "==", ("value", 1), ("binary", "+", A, A)))
        self.gives((S, (inner, (0,)), (by(test), (1,))), 2, (S, (by(put_in), (0,)), (inner, (1,))))
        self.gives((S, (inner, (0,)), (by(("column", "y")), (1,))), 2, (S, (by(C), (0,)), (inner, (1,))))

    def test_the_map_stays_where_others_rest_on_it(self):
        self.gives((S, (SAME, (0,)), (by(C), (1,)), (("union",), (2, 1))), 2,
                   (S, (by(C), (0,)), (SAME, (1,)), (SAME, (0,)), (("union",), (2, 3))))

    def test_others(self):
        self.nowhere((S, (by(C), (0,)), (SAME, (1,))), (S, (SAME, (0,)), (("distinct",), (1,))),
                     (S, (by(C), (0,)), (by(C), (1,))))


class UnderUnion(RuleCase):
    rule = "under union"

    def test_a_filter_of_a_union(self):
        test = ("binary", "and", C, less(A, 2))
        other = ("binary", "and", ("column", "f"), less(D, 2))
        self.gives((S, T, (("union",), (0, 1)), (by(test), (2,))), 3,
                   (S, (by(test), (0,)), T, (by(other), (2,)), (("union",), (1, 3))))

    def test_of_the_same_on_both_sides(self):
        self.gives((S, (("union",), (0, 0)), (by(C), (1,))), 2, (S, (by(C), (0,)), (("union",), (1, 1))))

    def test_names_at_other_places(self):
        turned = (("source", "v", (("d", "whole"), ("e", "text"), ("a", "flag"), ("b", "flag"), ("c", "flag"))), ())
        first = (("source", "w", (("a", "whole"), ("b", "text"), ("c", "flag"), ("d", "flag"), ("e", "flag"))), ())
        test = ("binary", "and", ("binary", "and", C, less(A, 2)), D)
        plan = (first, turned, (("union",), (0, 1)), (by(test), (2,)))
        self.same(apply_rule(plan, self.rule, 3), (
            first, (by(test), (0,)), turned,
            (by(("binary", "and", ("binary", "and", ("column", "a"), less(D, 2)), ("column", "b"))), (2,)),
            (("union",), (1, 3))))

    def test_others(self):
        self.nowhere((S, T, (("union",), (0, 1)), (("distinct",), (2,))),
                     (S, (by(C), (0,)), T, (("union",), (1, 2))), (S, T, (("join", ON), (0, 1)), (by(C), (2,))))


class UnderSides(RuleCase):
    OPERATORS = (("near", ON, -2, 3, "inner"), ("near", ON, -2, 3, "left"), ("asof", ON, "inner"),
                 ("asof", ON, "left"), ("join", ON))

    def plan(self, operator, test):
        return (S, T, (operator, (0, 1)), (by(test), (2,)))


class UnderLeft(UnderSides):
    rule = "under left"

    def test_columns_of_side_0(self):
        for operator in self.OPERATORS:
            for test in (C, less(A, 2), ("binary", "and", C, ("null", B)), ("value", False), TRUE):
                self.gives(self.plan(operator, test), 3, (S, (by(test), (0,)), T, (operator, (1, 2))))

    def test_other_columns(self):
        for operator in self.OPERATORS:
            for test in (("column", "f"), less(D, 2), ("binary", "and", C, less(D, 2)), ("binary", "==", A, D)):
                self.nowhere(self.plan(operator, test))

    def test_other_operators(self):
        self.nowhere((S, T, (("union",), (0, 1)), (by(C), (2,))), (S, T, (("join", ON), (0, 1)), (("distinct",), (2,))))


class UnderRight(UnderSides):
    rule = "under right"

    def test_columns_of_side_1(self):
        for operator in self.OPERATORS:
            for test in (("column", "f"), less(D, 2), ("binary", "and", ("column", "f"), ("null", E))):
                plan = self.plan(operator, test)
                if operator[-1] == "left":
                    self.nowhere(plan)
                else:
                    self.gives(plan, 3, (S, T, (by(test), (1,)), (operator, (0, 2))))

    def test_other_columns(self):
        for operator in self.OPERATORS:
            for test in (C, TRUE, ("value", False), ("binary", "and", C, less(D, 2)), ("binary", "==", A, D)):
                self.nowhere(self.plan(operator, test))

    def test_other_operators(self):
        self.nowhere((S, T, (("union",), (0, 1)), (by(C), (2,))), (S, T, (("join", ON), (0, 1)), (("distinct",), (2,))))


class UnderKeys(RuleCase):
    rule = "under keys"

    def operators(self, keys):
        return (("group", keys, (COUNT,)), ("top", keys, (("b", "up"),), 2),
                ("window", keys, ("tumble", 5), (COUNT, ("last", "last", "b"))), ("first", keys, 7))

    def test_columns_that_are_keys(self):
        for keys in (("c", "a"), ("a", "b", "c")):
            for operator in self.operators(keys):
                for test in (C, ("binary", "and", less(A, 2), C), ("value", False)):
                    self.gives((S, (operator, (0,)), (by(test), (1,))), 2, (S, (by(test), (0,)), (operator, (1,))))

    def test_no_keys(self):
        for operator in self.operators(())[:3]:
            self.gives((S, (operator, (0,)), (by(("value", None)), (1,))), 2,
                       (S, (by(("value", None)), (0,)), (operator, (1,))))

    def test_distinct(self):
        for test in (C, ("binary", "and", less(A, 2), ("null", B)), TRUE):
            self.gives((S, (("distinct",), (0,)), (by(test), (1,))), 2, (S, (by(test), (0,)), (("distinct",), (1,))))

    def test_columns_that_are_not(self):
        group, top, window, first = self.operators(("a",))
        for test in (less(("column", "n"), 2), ("binary", "<", A, ("column", "n"))):
            self.nowhere((S, (group, (0,)), (by(test), (1,))), (S, (window, (0,)), (by(test), (1,))))
        for test in (C, ("binary", "and", C, less(A, 2)), ("null", B)):
            self.nowhere((S, (top, (0,)), (by(test), (1,))), (S, (first, (0,)), (by(test), (1,))))
        for name in ("start", "end"):
            self.nowhere((S, (window, (0,)), (by(less(("column", name), 9)), (1,))))

    def test_other_operators(self):
        self.nowhere((S, (SAME, (0,)), (by(C), (1,))), (S, (("union",), (0, 0)), (by(C), (1,))),
                     (S, (by(C), (0,)), (("distinct",), (1,))), (S, (("distinct",), (0,)), (("distinct",), (1,))))


class Narrow(RuleCase):
    rule = "narrow"

    def test_a_group_or_window_that_does_not_use_all(self):
        for keys, aggs, to in ((("b",), (COUNT,), (("b", B),)), (("c", "a"), (COUNT,), (("a", A), ("c", C))),
                               ((), (("m", "sum", "a"),), (("a", A),)), (("c",), (("n", "count", "b"),),
                                                                        (("b", B), ("c", C))),
                               (("c",), (("l", "least", "c"), ("m", "most", "a")), (("a", A), ("c", C))),
                               ((), (COUNT,), (("a", A),)), ((), (("m", "mean", "a"), COUNT), (("a", A),))):
            for operator in (("group", keys, aggs), ("window", keys, ("hop", 4, 2), aggs)):
                self.gives((S, (operator, (0,))), 1, (S, (("map", to), (0,)), (operator, (1,))))

    def test_on_a_node_that_others_use(self):
        group = ("group", ("b",), (COUNT,))
        self.gives((S, (by(C), (0,)), (group, (1,))), 2,
                   (S, (by(C), (0,)), (("map", (("b", B),)), (1,)), (group, (2,))))
        plan = (S, (group, (0,)), (("map", (("x", B),)), (0,)), (("join", (("b", "x"),)), (1, 2)))
        self.gives(plan, 1, (S, (("map", (("b", B),)), (0,)), (group, (1,)), plan[2], (("join", (("b", "x"),)), (2, 3))))

    def test_all_are_used(self):
        self.nowhere((S, (("group", ("a", "b", "c"), (COUNT,)), (0,))),
                     (S, (("group", ("c", "a"), (("n", "count", "b"),)), (0,))),
                     (S, (("window", (), ("tumble", 2), (("m", "sum", "a"), ("l", "least", "b"), ("k", "most", "c"))),
                          (0,))))

    def test_a_single_column_that_is_not_used(self):
        one = (("source", "v", (("a", "whole"),)), ())
        self.nowhere((one, (("group", (), (COUNT,)), (0,))), (one, (("window", (), ("tumble", 2), (COUNT,)), (0,))))

    def test_first_and_last(self):
        for word in ("first", "last"):
            self.nowhere((S, (("window", ("b",), ("tumble", 2), ((COUNT, ("m", word, "a")))), (0,))),
                         (S, (("window", ("b",), ("tumble", 2), ((("m", word, "a"), COUNT))), (0,))))

    def test_other_operators(self):
        self.nowhere((S, (("top", ("a",), (("a", "up"),), 1), (0,))), (S, (("first", ("a",), 1), (0,))),
                     (S, (("distinct",), (0,))), (S, (by(C), (0,))), (S, (("map", (("x", A),)), (0,))))


class Turn(RuleCase):
    rule = "turn"
    BACK = ("map", tuple((name, ("column", name)) for name in "abcdef"))

    def test_join(self):
        for on, turned in ((ON, (("d", "a"),)), ((("b", "e"), ("a", "d")), (("e", "b"), ("d", "a")))):
            self.gives((S, T, (("join", on), (0, 1))), 2, (T, S, (("join", turned), (0, 1)), (self.BACK, (2,))))

    def test_near(self):
        for low, high in ((-2, 3), (0, 0), (1, 4), (-4, -1), (-5000, 5000), (0, 2)):
            self.gives((S, T, (("near", ON, low, high, "inner"), (0, 1))), 2,
                       (T, S, (("near", (("d", "a"),), -high, -low, "inner"), (0, 1)), (self.BACK, (2,))))

    def test_a_join_in_the_middle(self):
        self.gives((S, T, (("join", ON), (0, 1)), (by(C), (2,))), 2,
                   (T, S, (("join", (("d", "a"),)), (0, 1)), (self.BACK, (2,)), (by(C), (3,))))

    def test_others(self):
        self.nowhere((S, T, (("near", ON, -2, 3, "left"), (0, 1))), (S, T, (("asof", ON, "inner"), (0, 1))),
                     (S, T, (("asof", ON, "left"), (0, 1))), (S, T, (("union",), (0, 1))))

    def test_a_plan_that_would_have_too_many_nodes(self):
        chain = [S, T, (("join", ON), (0, 1))]
        while len(chain) < 15:
            chain.append((by(less(A, len(chain))), (len(chain) - 1,)))
        self.assertEqual(len(apply_rule(tuple(chain), "turn", 2)), 16)
        chain.append((by(less(A, 99)), (14,)))
        self.cannot(tuple(chain), 2)


class Distinct(RuleCase):
    rule = "distinct"

    def test_of_a_distinct_or_group(self):
        group = ("group", ("b",), (COUNT,))
        self.gives((S, (("distinct",), (0,)), (("distinct",), (1,))), 2, (S, (("distinct",), (0,))))
        self.gives((S, (group, (0,)), (("distinct",), (1,))), 2, (S, (group, (0,))))
        self.gives((S, (group, (0,)), (("distinct",), (1,)), (("union",), (1, 2))), 2,
                   (S, (group, (0,)), (("union",), (1, 1))))

    def test_of_others(self):
        self.nowhere((S, (("distinct",), (0,))), (S, (by(C), (0,)), (("distinct",), (1,))),
                     (S, (("top", (), (("a", "up"),), 1), (0,)), (("distinct",), (1,))),
                     (S, (("first", ("a",), 5), (0,)), (("distinct",), (1,))),
                     (S, (("window", (), ("tumble", 5), (COUNT,)), (0,)), (("distinct",), (1,))),
                     (S, (("distinct",), (0,)), (by(C), (1,))))


class Tops(RuleCase):
    rule = "tops"

    def plan(self, inner, outer):
        return (S, (("top",) + inner, (0,)), (("top",) + outer, (1,)))

    def test_of_the_same_keys_and_the_same_by(self):
        for keys in ((), ("b",), ("b", "c")):
            for order in ((("a", "up"),), (("a", "down"), ("b", "up"))):
                for one, other, least in ((3, 2, 2), (2, 3, 2), (1, 20, 1)):
                    self.gives(self.plan((keys, order, one), (keys, order, other)), 2,
                               (S, (("top", keys, order, least), (0,))))
        self.gives(self.plan(((), (("a", "up"),), 2), ((), (("a", "up"),), 2)), 2,
                   (S, (("top", (), (("a", "up"),), 2), (0,))))

    def test_of_others(self):
        up, down = (("a", "up"),), (("a", "down"),)
        self.nowhere(self.plan((("b",), up, 2), (("c",), up, 2)), self.plan((("b",), up, 2), ((), up, 2)),
                     self.plan((("b",), up, 2), (("b",), down, 2)),
                     self.plan((("b",), up, 2), (("b",), up + (("b", "up"),), 2)),
                     self.plan(((), up, 2), ((), (("b", "up"),), 2)),
                     (S, (("first", ("b",), 5), (0,)), (("top", ("b",), up, 2), (1,))),
                     (S, (("top", ("b",), up, 2), (0,)), (("distinct",), (1,))))


class Firsts(RuleCase):
    rule = "firsts"

    def plan(self, inner, outer):
        return (S, (("first",) + inner, (0,)), (("first",) + outer, (1,)))

    def test_of_the_same_keys(self):
        for keys in (("b",), ("b", "c")):
            for one, other in ((5, 5), (5, 4), (100000, 1)):
                self.gives(self.plan((keys, one), (keys, other)), 2, (S, (("first", keys, one), (0,))))

    def test_of_others(self):
        self.nowhere(self.plan((("b",), 5), (("b",), 6)), self.plan((("b",), 5), (("c",), 5)),
                     self.plan((("b",), 5), (("b", "c"), 5)), self.plan((("b", "c"), 5), (("b",), 5)),
                     (S, (("first", ("b",), 5), (0,)), (by(C), (1,))), (S, (by(C), (0,)), (("first", ("b",), 5), (1,))))


class Steps(ExactCase):
    def test_the_words(self):
        self.same(RULES, WORDS_OF_RULES)

    def test_no_such_rule_or_node(self):
        plan = (S, (by(TRUE), (0,)))
        for node in (-1, -2, 2, 3, 16, 99, 0):
            self.same(apply_rule(plan, "all", node), None)
        for rule in ("", "none", "All", "filter", "under"):
            self.same(apply_rule(plan, rule, 1), None)
        for rule in RULES:
            self.same(apply_rule((S,), rule, 0), None)

    def test_in_order(self):
        plan = (S, T, (("join", ON), (0, 1)), (by(TRUE), (2,)), (by(("value", False)), (3,)), (by(less(A, 3)), (4,)),
                (("group", ("b",), (COUNT,)), (5,)), (("distinct",), (6,)), (("distinct",), (7,)))
        self.same(steps_of(plan), [("turn", 2), ("all", 3), ("under left", 3), ("filters", 4), ("filters", 5),
                                   ("narrow", 6), ("distinct", 7), ("distinct", 8)])
        self.same(steps_of((S,)), [])

    def test_another_plan_than_before(self):
        plan = (S, (("distinct",), (0,)), (by(TRUE), (1,)), (by(C), (2,)))
        self.same(steps_of(plan), [("all", 2), ("under keys", 2), ("filters", 3)])

    def test_they_are_what_the_document_says(self):
        numbers = generator_of_numbers(87)
        met = set()
        for _ in range(400):
            plan = random_plan(numbers, 7)
            wanted = plain_steps(plan)
            self.same(steps_of(plan), [step for step, _ in wanted])
            for (rule, node), changed in wanted:
                self.same(apply_rule(plan, rule, node), changed)
                met.add(rule)
        self.assertEqual(met, set(RULES))

    def test_steps_keep_the_meaning_the_fields_and_the_kind(self):
        numbers = generator_of_numbers(88)
        for _ in range(150):
            plan, flows = random_plan(numbers), random_flows(numbers)
            wanted = meaning(plan, flows)
            for rule, node in steps_of(plan):
                changed = apply_rule(plan, rule, node)
                self.assertTrue(is_tidy(changed))
                self.same(fields_of(changed)[-1], fields_of(plan)[-1])
                self.same(meaning(changed, flows), wanted)

    def test_arguments_are_left_alone(self):
        plan = (S, T, (("join", ON), (0, 1)), (by(TRUE), (2,)))
        self.leaves_alone(steps_of, plan)
        self.leaves_alone(apply_rule, plan, "turn", 2)
        self.leaves_alone(check_certificate, plan, [("all", 3)], plan[:3])


class Certificates(ExactCase):
    PLAN = (S, T, (("join", ON), (0, 1)), (by(TRUE), (2,)), (by(C), (3,)))
    STEPS = [("all", 3), ("under left", 3)]
    TO = (S, (by(C), (0,)), T, (("join", ON), (1, 2)))

    def test_that_hold(self):
        self.same(check_certificate(self.PLAN, self.STEPS, self.TO), None)
        self.same(check_certificate(self.PLAN, self.STEPS[:1], self.PLAN[:3] + ((by(C), (2,)),)), None)

    def test_of_no_steps(self):
        self.same(check_certificate(self.PLAN, [], self.PLAN), None)
        self.same(check_certificate(self.PLAN, [], self.TO), 0)
        self.same(check_certificate((S,), [], (S,)), None)

    def test_that_lead_elsewhere(self):
        self.same(check_certificate(self.PLAN, self.STEPS, self.PLAN), 2)
        self.same(check_certificate(self.PLAN, self.STEPS[:1], self.TO), 1)
        one, other = [(S, (("filter", ("binary", "==", A, ("value", value))), (0,))) for value in (1, 2)]
        self.same(check_certificate(one, [], other), 0)

    def test_true_in_the_place_of_1(self):
        flag = (S, (("map", (("x", ("null", ("value", True))),)), (0,)))
        whole = (S, (("map", (("x", ("null", ("value", 1))),)), (0,)))
        self.same(check_certificate(flag, [], whole), 0)
        self.same(check_certificate(whole, [], whole), None)
        with_all = flag + ((by(TRUE), (1,)),)
        self.same(check_certificate(with_all, [("all", 2)], whole), 1)
        self.same(check_certificate(with_all, [("all", 2)], flag), None)

    def test_the_first_step_that_cannot_be_applied(self):
        self.same(check_certificate(self.PLAN, [("under left", 4)] + self.STEPS, self.TO), 0)
        self.same(check_certificate(self.PLAN, self.STEPS[::-1], self.TO), 1)
        self.same(check_certificate(self.PLAN, [("all", 3), ("all", 3)], self.TO), 1)
        self.same(check_certificate(self.PLAN, self.STEPS + [("under left", 3), ("all", 9)], self.TO), 2)
        for step in (("none", 3), ("all", -1), ("all", 99)):
            self.same(check_certificate(self.PLAN, [step], self.TO), 0)
            self.same(check_certificate(self.PLAN, self.STEPS + [step], self.TO), 2)

    def test_a_plan_that_is_not_tidy_has_no_steps(self):
        plan = (T, S, (by(TRUE), (1,)))
        self.same(check_certificate(plan, [("all", 2)], (S,)), 0)
        self.same(check_certificate(plan, [], plan), None)
        self.same(check_certificate(plan, [], (S, (by(TRUE), (0,)))), 0)

    def test_steps_made_by_chance(self):
        numbers = generator_of_numbers(89)
        for _ in range(60):
            plan, steps = random_plan(numbers), []
            reached = plan
            for _ in range(4):
                if steps_of(reached):
                    steps.append(numbers.choice(steps_of(reached)))
                    reached = apply_rule(reached, *steps[-1])
            self.same(check_certificate(plan, steps, reached), None)
            flows = random_flows(numbers)
            self.same(meaning(plan, flows), meaning(reached, flows))


if __name__ == "__main__":
    unittest.main()
