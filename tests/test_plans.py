"""Points 38 to 40 and 42: plans, their faults, their fields and their meaning."""

import unittest

from tests.plain_operators import plain_define
from tests.random_plans import random_flows, random_plan
from tests.support import ExactCase, generator_of_numbers, spoil
from tideweir.errors import InvalidPlan, UnknownSource
from tideweir.flows.flows import check_flow, part_of, sum_flows
from tideweir.flows.tables import is_events, is_lawful
from tideweir.plans.plans import check_plan, fields_of, meaning, meanings, sources_of
from tideweir.plans.tidying import tidied

LEFT = (("a", "whole"), ("b", "text"))
RIGHT = (("d", "whole"), ("e", "text"))
S, T = (("source", "s", LEFT), ()), (("source", "t", RIGHT), ())
FEW = ("filter", ("binary", "<", ("column", "a"), ("value", 3)))
COUNT = ("group", ("b",), (("n", "count", None),))
JOIN = ("join", (("a", "d"),))
ALL_FUNCTIONS = (check_plan, fields_of, lambda plan: meaning(plan, {}), lambda plan: meanings(plan, {}))


class Faults(ExactCase):
    def wrong(self, message, *nodes):
        for function in ALL_FUNCTIONS:
            self.refused(InvalidPlan, message, function, tuple(nodes))

    def right(self, *nodes):
        self.same(check_plan(tuple(nodes)), None)

    def test_how_many_nodes(self):
        self.wrong("no nodes")
        self.right(S)
        chain = [S] + [(FEW, (number,)) for number in range(16)]
        self.right(*chain[:16])
        self.wrong("more than 16 nodes", *chain)
        self.wrong("more than 16 nodes", *chain, (FEW, (99,)))
        self.wrong("more than 16 nodes", (FEW, ()), *chain)

    def test_how_many_inputs(self):
        self.wrong("node 0: inputs", (S[0], (0,)))
        self.wrong("node 1: inputs", S, (S[0], (0,)))
        self.wrong("node 0: inputs", (FEW, ()))
        self.wrong("node 1: inputs", S, (FEW, ()))
        self.wrong("node 1: inputs", S, (FEW, (0, 0)))
        self.wrong("node 1: inputs", S, (("union",), (0,)))
        self.wrong("node 1: inputs", S, (("union",), (0, 0, 0)))
        self.wrong("node 2: inputs", S, T, (JOIN, (0,)))
        self.wrong("node 2: inputs", S, T, (("asof", (("a", "d"),), "left"), (1,)))
        self.wrong("node 2: inputs", S, T, (("near", (("a", "d"),), 0, 1, "left"), ()))

    def test_inputs_that_do_not_stand_before(self):
        self.wrong("node 1: inputs", S, (FEW, (1,)))
        self.wrong("node 1: inputs", S, (FEW, (2,)), T)
        self.wrong("node 1: inputs", S, (FEW, (-1,)))
        self.wrong("node 0: inputs", (FEW, (0,)))
        self.wrong("node 1: inputs", S, (("union",), (0, 1)))
        self.wrong("node 1: inputs", S, (("union",), (-1, 0)))
        self.wrong("node 2: inputs", S, (FEW, (0,)), (FEW, (16,)))
        self.right(S, (("union",), (0, 0)))

    def test_other_fields(self):
        self.right(S, S)
        self.right(S, T)
        self.wrong("node 1: other fields", S, (("source", "s", RIGHT), ()))
        self.wrong("node 1: other fields", S, (("source", "s", LEFT[::-1]), ()))
        self.wrong("node 1: other fields", S, (("source", "s", LEFT[:1]), ()))
        self.wrong("node 3: other fields", T, S, S, (("source", "t", LEFT), ()))
        self.wrong("node 1: other fields", S, (("source", "s", (("a", "whole"), ("b", "flag"))), ()))
        self.wrong("node 2: other fields", S, (FEW, (0,)), (("source", "s", RIGHT), ()))

    def test_operators_that_are_refused(self):
        self.wrong("node 1: there is no column x", S, (("filter", ("column", "x")), (0,)))
        self.wrong("node 1: types differ", S, (("filter", ("column", "a")), (0,)))
        self.wrong("node 2: events are wanted", S, (COUNT, (0,)), (("first", ("b",), 5), (1,)))
        self.wrong("node 1: a is there twice", S, (JOIN[:1] + ((("a", "a"),),), (0, 0)))
        wide = (("source", "w", tuple(("c" + str(index), "whole") for index in range(7))), ())
        self.wrong("node 2: too many columns", S, wide, (("join", (("a", "c0"),)), (0, 1)))
        self.wrong("node 2: there is no column a", S, (COUNT, (0,)), (FEW, (1,)))

    def test_the_first_fault(self):
        wrong, lost = (("filter", ("column", "x")), (0,)), (FEW, (7,))
        self.wrong("node 1: there is no column x", S, wrong, lost)
        self.wrong("node 1: inputs", S, lost, wrong)
        self.wrong("node 1: inputs", S, (("source", "s", RIGHT), (0,)))
        self.wrong("node 1: inputs", S, (("filter", ("column", "x")), (0, 0)))
        self.wrong("node 2: other fields", S, T, (("source", "s", RIGHT), ()), lost)
        self.wrong("node 2: inputs", S, (FEW, (0,)), (FEW, (2,)), (("source", "s", RIGHT), ()))

    def test_arguments_are_left_alone(self):
        plan = (S, T, (JOIN, (0, 1)), (COUNT, (2,)))
        flows = {"s": [(1, (1, "x"), 1)], "t": [(2, (1, "y"), 1)]}
        self.leaves_alone(check_plan, plan)
        self.leaves_alone(fields_of, plan)
        self.leaves_alone(sources_of, plan)
        self.leaves_alone(meaning, plan, flows)
        self.leaves_alone(meanings, plan, flows)
        self.leaves_alone(meaning, (S,), flows)
        self.leaves_alone(meanings, (S, S, (("union",), (0, 1))), flows)


class Fields(ExactCase):
    def test_node_by_node(self):
        plan = (S, T, (JOIN, (0, 1)), (("filter", ("value", True)), (2,)), (COUNT, (3,)),
                (("near", (("a", "d"),), 0, 5, "left"), (0, 1)), (FEW, (5,)))
        both = LEFT + RIGHT
        self.same(fields_of(plan), [
            (LEFT, "events"), (RIGHT, "events"), (both, "table"), (both, "table"), ((("b", "text"), ("n", "whole")),
                                                                                   "table"),
            (both, "events"), (both, "events")])
        self.same(fields_of((S,)), [(LEFT, "events")])

    def test_sources(self):
        self.same(sources_of((S,)), ["s"])
        self.same(sources_of((T, S, (("union",), (1, 0)), T, S)), ["t", "s"])
        self.same(sources_of((S, (FEW, (0,)), T, (("union",), (1, 2)))), ["s", "t"])


class Meaning(ExactCase):
    PLAN = (S, (FEW, (0,)), T, (JOIN, (1, 2)), (("group", ("e",), (("n", "count", None),)), (3,)))
    FLOWS = {"s": [(1, (1, "x"), 1), (3, (2, "x"), 2), (3, (5, "x"), 1)],
             "t": [(2, (1, "u"), 1), (4, (2, "u"), 1), (4, (5, "v"), 1)]}

    def test_node_by_node(self):
        told = meanings(self.PLAN, self.FLOWS)
        self.same(told, [
            self.FLOWS["s"], self.FLOWS["s"][:2], self.FLOWS["t"],
            [(2, (1, "x", 1, "u"), 1), (4, (2, "x", 2, "u"), 2)],
            [(2, ("u", 1), 1), (4, ("u", 1), -1), (4, ("u", 3), 1)]])
        self.same(meaning(self.PLAN, self.FLOWS), told[-1])
        self.same(meaning((S,), self.FLOWS), self.FLOWS["s"])
        self.same(meaning((S, T), self.FLOWS), self.FLOWS["t"])

    def test_a_source_that_stands_there_twice(self):
        self.same(meaning((S, S, (("union",), (0, 1))), self.FLOWS),
                  [(time, row, 2 * weight) for time, row, weight in self.FLOWS["s"]])
        self.same(meaning((S, (("union",), (0, 0))), self.FLOWS),
                  [(time, row, 2 * weight) for time, row, weight in self.FLOWS["s"]])

    def test_sources_that_are_not_among_the_flows(self):
        for flows, name in (({}, "s"), ({"t": []}, "s"), ({"s": []}, "t"), ({"x": []}, "s")):
            for function in (meaning, meanings):
                self.refused(UnknownSource, name, function, self.PLAN, flows)
        self.refused(UnknownSource, "t", meaning, (T, S), {"s": []})
        self.refused(UnknownSource, "t", meaning, (S, T), {"s": []})
        self.same(meaning((S,), {"s": [], "other": [(1, ("q",), 1)]}), [])

    def test_a_fault_of_the_plan_comes_first(self):
        self.refused(InvalidPlan, "node 1: inputs", meaning, (S, (FEW, (1,))), {})
        self.refused(InvalidPlan, "no nodes", meanings, (), {})

    def test_it_is_what_the_document_says(self):
        numbers = generator_of_numbers(81)
        for _ in range(100):
            plan, flows = random_plan(numbers), random_flows(numbers)
            fields, wanted = fields_of(plan), []
            for operator, inputs in plan:
                if operator[0] == "source":
                    wanted.append(flows[operator[1]])
                else:
                    wanted.append(plain_define(operator, [fields[node][0] for node in inputs],
                                               [wanted[node] for node in inputs]))
            told = meanings(plan, flows)
            self.same(told, wanted)
            self.same(meaning(plan, flows), wanted[-1])
            for flow, (own, kind) in zip(told, fields):
                check_flow(flow, own)
                self.assertTrue(is_lawful(flow) and (kind == "table" or is_events(flow)))

    def test_it_is_that_of_the_tidied_plan(self):
        numbers = generator_of_numbers(82)
        for _ in range(60):
            plan, flows = random_plan(numbers), random_flows(numbers)
            twice = plan[:-1] + (plan[0], plan[-1])
            self.same(meaning(twice, flows), meaning(plan, flows))
            self.same(meaning(tidied(twice), flows), meaning(plan, flows))

    def test_the_part_up_to_a_time_is_that_of_the_parts(self):
        numbers = generator_of_numbers(83)
        for _ in range(100):
            plan, flows, time = random_plan(numbers), random_flows(numbers), numbers.randint(-1, 22)
            early = {name: part_of(flow, -1, time) for name, flow in flows.items()}
            self.same(part_of(meaning(plan, early), -1, time), part_of(meaning(plan, flows), -1, time))

    def test_sums_of_flows(self):
        numbers = generator_of_numbers(84)
        for _ in range(60):
            plan = random_plan(numbers, 6, ("filter", "map", "union"))
            one, other = random_flows(numbers), random_flows(numbers)
            both = {name: sum_flows([one[name], other[name]]) for name in one}
            self.same(meaning(plan, both), sum_flows([meaning(plan, one), meaning(plan, other)]))

    def test_flows_of_nodes_are_lists_of_their_own(self):
        flows = {"s": [(1, (1, "x"), 1)]}
        told = meanings((S, S, (("filter", ("value", True)), (0,)), (("union",), (1, 2))), flows)
        for flow in told:
            before = repr([other for other in told if other is not flow])
            spoil(flow)
            self.same([other for other in told if other is not flow], eval(before))
        self.same(flows, {"s": [(1, (1, "x"), 1)]})


if __name__ == "__main__":
    unittest.main()
