"""Points 59 and 60: plans that are laid out."""

import unittest

from tests.plain_graphs import plain_lay_out
from tests.random_graphs import is_let_by, random_parallel
from tests.random_plans import random_plan
from tests.support import ExactCase, generator_of_numbers
from tideweir.errors import InvalidGraph, InvalidPlan
from tideweir.graphs.laying import even_owners, lay_out

ONE = (0,) * 16
TWO = (0,) * 8 + (1,) * 8
THREE = (0,) * 6 + (1,) * 5 + (2,) * 5
FOUR = (0,) * 4 + (1,) * 4 + (2,) * 4 + (3,) * 4
FIELDS = (("k", "text"), ("v", "whole"))
OTHER = (("j", "text"), ("w", "whole"))
SOURCE = ("source", "s", FIELDS)
SECOND = ("source", "t", OTHER)
SINK = (("sink",), 1, ONE)
ALL = ("filter", ("value", True))
GROUP = ("group", ("k", "v"), (("n", "count", None),))
BY_K = ("top", ("k",), (("v", "up"),), 2)
BY_J = ("top", ("j",), (("w", "up"),), 2)
BY_W = ("top", ("w",), (("j", "up"),), 2)
JOIN = ("join", (("k", "j"), ("v", "w")))
COUNT = ("group", (), (("n", "count", None),))


class Owners(ExactCase):
    def test_even_owners(self):
        for parallel, wanted in enumerate((ONE, TWO, THREE, FOUR), 1):
            self.same(even_owners(parallel), wanted)

    def test_somewhat_beyond(self):
        self.same(even_owners(5), (0, 0, 0, 0, 1, 1, 1, 2, 2, 2, 3, 3, 3, 4, 4, 4))
        self.same(even_owners(16), tuple(range(16)))


class Laid(ExactCase):
    def laid(self, plan, parallel, *ships):
        """The graph has these ways to ship; the last one leads to the sink."""
        stages, edges = lay_out(plan, parallel)
        self.same([edge[3] for edge in edges], list(ships))
        self.same((stages, edges), plain_lay_out(plan, parallel))
        self.leaves_alone(lay_out, plan, parallel)
        self.assertTrue(is_let_by((stages, edges)))

    def test_a_graph(self):
        plan = (SOURCE, ()), (SECOND, ()), (ALL, (0,)), (JOIN, (2, 1))
        self.same(lay_out(plan, [2, 1, 2, 3]), (
            [(SOURCE, 2, TWO), (SECOND, 1, ONE), (ALL, 2, TWO), (JOIN, 3, THREE), SINK],
            [(0, 2, 0, "forward"), (2, 3, 0, ("k", "v")), (1, 3, 1, ("j", "w")), (3, 4, 0, "one")]))

    def test_a_source_alone(self):
        self.laid(((SOURCE, ()),), [1], "forward")
        self.laid(((SOURCE, ()),), [4], "one")

    def test_one_task(self):
        plan = (SOURCE, ()), (GROUP, (0,))
        self.laid(plan, [1, 1], "forward", "forward")
        self.laid(plan, [3, 1], "one", "forward")
        self.laid(((SOURCE, ()), (ALL, (0,))), [3, 1], "one", "forward")

    def test_operators_that_bind_nothing(self):
        for operator in (ALL, ("map", (("a", ("column", "v")),))):
            plan = (SOURCE, ()), (operator, (0,))
            self.laid(plan, [3, 3], "forward", "one")
            self.laid(plan, [1, 3], ("k", "v"), "one")
            self.laid(plan, [4, 3], ("k", "v"), "one")
        plan = (SOURCE, ()), (SECOND, ()), (("union",), (0, 1))
        self.laid(plan, [2, 2, 2], "forward", "forward", "one")
        self.laid(plan, [2, 3, 2], "forward", ("j", "w"), "one")
        self.laid(plan, [3, 2, 2], ("k", "v"), "forward", "one")
        self.laid(plan, [3, 3, 2], ("k", "v"), ("j", "w"), "one")
        self.laid(plan, [3, 3, 1], "one", "one", "forward")

    def test_all_columns_are_those_of_what_comes_out(self):
        to = ("map", (("a", ("column", "v")), ("b", ("column", "k")), ("c", ("value", None))))
        self.laid(((SOURCE, ()), (to, (0,)), (ALL, (1,))), [2, 2, 3], "forward", ("a", "b", "c"), "one")

    def test_one_side(self):
        plan = (SOURCE, ()), (GROUP, (0,))
        self.laid(plan, [2, 2], ("k", "v"), "one")
        self.laid(plan, [1, 2], ("k", "v"), "one")
        self.laid(((SOURCE, ()), (("distinct",), (0,))), [2, 2], ("k", "v"), "one")

    def test_one_side_that_fits(self):
        plan = (SOURCE, ()), (BY_K, (0,)), (GROUP, (1,))
        self.laid(plan, [2, 2, 2], ("k",), "forward", "one")
        self.laid(plan, [2, 2, 3], ("k",), ("k", "v"), "one")
        self.laid(plan, [2, 1, 3], "one", ("k", "v"), "one")
        plan = (SOURCE, ()), (BY_K, (0,)), (("distinct",), (1,)), (("group", ("v",), (("n", "count", None),)), (2,))
        self.laid(plan, [2, 2, 2, 2], ("k",), "forward", ("v",), "one")
        plan = (SOURCE, ()), (BY_K, (0,)), (ALL, (1,)), (("group", ("v", "k"), (("n", "count", None),)), (2,))
        self.laid(plan, [2, 3, 3, 3], ("k",), "forward", "forward", "one")

    def test_keys_that_are_empty(self):
        stages, edges = lay_out(((SOURCE, ()), (COUNT, (0,))), [2, 4])
        self.same(stages, [(SOURCE, 2, TWO), (COUNT, 1, ONE), SINK])
        self.same(edges, [(0, 1, 0, "one"), (1, 2, 0, "forward")])
        for operator in (("top", (), (("v", "up"),), 2), ("window", (), ("tumble", 5), (("n", "count", None),))):
            self.laid(((SOURCE, ()), (operator, (0,))), [1, 3], "forward", "forward")

    def test_two_sides(self):
        plan = (SOURCE, ()), (SECOND, ()), (JOIN, (0, 1))
        self.laid(plan, [2, 2, 2], ("k", "v"), ("j", "w"), "one")
        self.laid(plan, [2, 3, 1], "one", "one", "forward")
        self.laid(plan, [1, 3, 1], "forward", "one", "forward")

    def test_two_sides_of_which_one_fits(self):
        plan = (SOURCE, ()), (BY_K, (0,)), (SECOND, ()), (JOIN, (1, 2))
        self.laid(plan, [1, 3, 3, 3], ("k",), "forward", ("j",), "one")
        self.laid(plan, [1, 2, 3, 3], ("k",), ("k", "v"), ("j", "w"), "one")
        plan = (SOURCE, ()), (SECOND, ()), (BY_W, (1,)), (JOIN, (0, 2))
        self.laid(plan, [1, 1, 3, 3], ("w",), ("v",), "forward", "one")

    def test_two_sides_that_both_fit(self):
        plan = (SOURCE, ()), (BY_K, (0,)), (SECOND, ()), (BY_J, (2,)), (JOIN, (1, 3))
        self.laid(plan, [1, 3, 1, 3, 3], ("k",), ("j",), "forward", "forward", "one")
        self.laid(plan, [1, 2, 1, 3, 3], ("k",), ("j",), ("k",), "forward", "one")
        other = (SOURCE, ()), (BY_K, (0,)), (SECOND, ()), (BY_W, (2,)), (JOIN, (1, 3))
        self.laid(other, [1, 3, 1, 3, 3], ("k",), ("w",), "forward", ("j",), "one")

    def test_an_order_of_places_that_is_not_that_of_on(self):
        turned = ("first", ("v", "k"), 5)
        plan = (SOURCE, ()), (turned, (0,)), (SECOND, ()), (JOIN, (1, 2))
        self.laid(plan, [1, 2, 2, 2], ("v", "k"), "forward", ("w", "j"), "one")

    def test_by_chance(self):
        for seed in range(400):
            numbers = generator_of_numbers(seed)
            plan = random_plan(numbers, 8)
            parallel = random_parallel(numbers, plan)
            graph = lay_out(plan, parallel)
            self.same(graph, plain_lay_out(plan, parallel))

    def test_no_edge_by_columns_could_be_forward(self):
        tried = 0
        for seed in range(400):
            numbers = generator_of_numbers(seed)
            plan = random_plan(numbers, 8)
            stages, edges = lay_out(plan, random_parallel(numbers, plan))
            for k, (origin, target, side, ship) in enumerate(edges):
                if isinstance(ship, tuple):
                    tried += 1
                    other = edges[:k] + [(origin, target, side, "forward")] + edges[k + 1:]
                    self.assertFalse(is_let_by((stages, other)))
        self.assertGreater(tried, 100)


class Refused(ExactCase):
    def test_plans_that_are_not_let_by(self):
        self.refused(InvalidPlan, "no nodes", lay_out, (), [])
        self.refused(InvalidPlan, "node 1: inputs", lay_out, ((SOURCE, ()), (ALL, (1,))), [1, 1])
        self.refused(InvalidPlan, "node 2: there is no column k", lay_out,
                     ((SOURCE, ()), (SECOND, ()), (BY_K, (1,))), [1, 1, 1])

    def test_nodes_that_lead_nowhere(self):
        self.refused(InvalidGraph, "node 0 leads nowhere", lay_out, ((SOURCE, ()), (SECOND, ())), [1, 1])
        plan = (SOURCE, ()), (ALL, (0,)), (ALL, (0,)), (SECOND, ()), (JOIN, (0, 3))
        self.refused(InvalidGraph, "node 1 leads nowhere", lay_out, plan, [1, 2, 1, 1, 1])


if __name__ == "__main__":
    unittest.main()
