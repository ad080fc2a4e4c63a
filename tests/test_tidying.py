"""Point 41: tidy plans and tidied plans."""

import unittest

from tests.random_plans import random_flows, random_plan
from tests.support import ExactCase, generator_of_numbers
from tideweir.plans.plans import check_plan, meaning
from tideweir.plans.tidying import is_tidy, tidied

LEFT = (("a", "whole"), ("b", "text"), ("c", "flag"))
S, T = (("source", "s", LEFT), ()), (("source", "t", LEFT), ())
C = ("column", "c")
BY_C = ("filter", C)


def equal_to(column, value):
    """A filter by a value of a column."""
    return ("filter", ("binary", "==", ("column", column), ("value", value)))


def scrambled(numbers, plan):
    """A plan of the same meaning, with nodes in another order, some of them twice, and some without need."""
    nodes, places = [], {}
    waiting = list(range(len(plan)))
    while waiting:
        ready = [node for node in waiting if all(below in places for below in plan[node][1])]
        node = numbers.choice(ready)
        for _ in range(numbers.choice((1, 1, 2)) if len(nodes) < 10 else 1):
            nodes.append((plan[node][0], tuple(numbers.choice(places[below]) for below in plan[node][1])))
            places.setdefault(node, []).append(len(nodes) - 1)
        waiting.remove(node)
    root = plan[-1][0], tuple(numbers.choice(places[below]) for below in plan[-1][1])
    return tuple(nodes) + (root,)


class Tidied(ExactCase):
    def gives(self, plan, wanted):
        self.same(tidied(plan), wanted)
        self.same(tidied(wanted), wanted)
        self.assertIs(is_tidy(wanted), True)
        self.assertIs(is_tidy(plan), repr(plan) == repr(wanted))

    def test_tidy_plans(self):
        for plan in ((S,), (S, (BY_C, (0,))), (S, T, (("union",), (0, 1))), (S, (("union",), (0, 0))),
                     (S, (BY_C, (0,)), (("union",), (0, 1))), (S, (BY_C, (0,)), (("union",), (1, 0))),
                     (S, (BY_C, (0,)), T, (("union",), (1, 2)))):
            self.gives(plan, plan)

    def test_alike_sources(self):
        self.gives((S, S, (("union",), (0, 1))), (S, (("union",), (0, 0))))
        self.gives((S, S), (S,))
        self.gives((S, T, S, (("union",), (1, 2))), (T, S, (("union",), (0, 1))))

    def test_alike_nodes_on_alike_nodes(self):
        plan = (S, S, (BY_C, (0,)), (BY_C, (1,)), (("union",), (2, 3)), (("distinct",), (4,)))
        self.gives(plan, (S, (BY_C, (0,)), (("union",), (1, 1)), (("distinct",), (2,))))
        plan = (S, (BY_C, (0,)), (BY_C, (1,)), (BY_C, (0,)), (BY_C, (3,)), (("union",), (2, 4)))
        self.gives(plan, (S, (BY_C, (0,)), (BY_C, (1,)), (("union",), (2, 2))))

    def test_the_inputs_have_to_be_alike_side_by_side(self):
        plan = (S, T, (("union",), (0, 1)), (("union",), (1, 0)), (("union",), (2, 3)))
        self.gives(plan, plan)
        plan = (S, T, (BY_C, (0,)), (BY_C, (1,)), (("union",), (2, 3)))
        self.gives(plan, (S, (BY_C, (0,)), T, (BY_C, (2,)), (("union",), (1, 3))))

    def test_true_beside_1(self):
        plan = (S, (("map", (("x", ("value", True)),)), (0,)), (("map", (("x", ("value", 1)),)), (0,)),
                (("group", (), (("n", "count", None),)), (1,)), (("group", (), (("n", "count", None),)), (2,)),
                (("union",), (3, 4)))
        check_plan(plan)
        self.gives(plan, (plan[0], plan[1], (plan[3][0], (1,)), plan[2], (plan[4][0], (3,)), (("union",), (2, 4))))

    def test_values_that_python_takes_for_equal(self):
        for one, other in ((True, 1), (False, 0), (1, True)):
            plan = (S, (equal_to("a", one), (0,)), (equal_to("a", other), (0,)), (("union",), (1, 2)))
            self.gives(plan, plan)
        plan = (S, (equal_to("b", "1"), (0,)), (equal_to("b", None), (0,)), (("union",), (1, 2)))
        self.gives(plan, plan)
        plan = (S, (equal_to("a", 1), (0,)), (equal_to("a", 1), (0,)), (("union",), (1, 2)))
        self.gives(plan, (S, plan[1], (("union",), (1, 1))))

    def test_nodes_on_which_the_root_does_not_rest(self):
        self.gives((S, T), (T,))
        self.gives((T, S, (BY_C, (0,)), (BY_C, (1,))), (S, (BY_C, (0,))))
        self.gives((S, (BY_C, (0,)), (("distinct",), (1,)), (("distinct",), (0,))), (S, (("distinct",), (0,))))

    def test_nodes_in_another_order(self):
        self.gives((T, S, (("union",), (1, 0))), (S, T, (("union",), (0, 1))))
        self.gives((S, T, (BY_C, (0,)), (("union",), (2, 1))), (S, (BY_C, (0,)), T, (("union",), (1, 2))))
        self.gives((S, T, (BY_C, (1,)), (("union",), (0, 2)), (("union",), (2, 3))),
                   (T, (BY_C, (0,)), S, (("union",), (2, 1)), (("union",), (1, 3))))

    def test_a_root_that_is_alike_to_a_node_before(self):
        self.gives((S, (BY_C, (0,)), T, (BY_C, (0,))), (S, (BY_C, (0,))))
        self.gives((S, (BY_C, (0,)), (("distinct",), (1,)), (BY_C, (0,))), (S, (BY_C, (0,))))

    def test_sixteen_nodes(self):
        chain = [S]
        for number in range(15):
            chain.append((equal_to("a", number), (number,)))
        self.gives(tuple(chain), tuple(chain))
        doubled = [S]
        for number in range(15):
            doubled.append((("union",), (number, number)))
        self.gives(tuple(doubled), tuple(doubled))

    def test_deep_expressions(self):
        deep, other = ("value", 1), ("value", True)
        for _ in range(28):
            deep, other = ("null", deep), ("null", other)
        plan = (S, (("filter", deep), (0,)), (("filter", other), (0,)), (("union",), (1, 2)))
        self.gives(plan, plan)

    def test_scrambled_plans(self):
        numbers = generator_of_numbers(85)
        for _ in range(200):
            plan = random_plan(numbers)
            self.gives(plan, plan)
            other = scrambled(numbers, plan)
            self.gives(other, plan)

    def test_the_meaning_stays(self):
        numbers = generator_of_numbers(86)
        for _ in range(60):
            plan, flows = random_plan(numbers, 4), random_flows(numbers)
            other = scrambled(numbers, plan)
            if len(other) <= 16:
                self.same(meaning(other, flows), meaning(plan, flows))

    def test_arguments_are_left_alone(self):
        plan = (T, S, (BY_C, (0,)), (BY_C, (0,)), (("union",), (2, 3)))
        self.leaves_alone(tidied, plan)
        self.leaves_alone(is_tidy, plan)


if __name__ == "__main__":
    unittest.main()
