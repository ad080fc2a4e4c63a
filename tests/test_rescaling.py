"""Points 75 to 77: graphs with other numbers of tasks, and checkpoints that are rescaled to them."""

import unittest

from tests.plain_shifts import PlainRescaled
from tests.random_graphs import random_graph, random_parallel
from tests.random_shifts import go_on, other_graph, random_engine, take
from tests.support import ExactCase, generator_of_numbers
from tideweir.engines.engine import Engine
from tideweir.errors import InvalidGraph, InvalidPlan, NotTheSame
from tideweir.graphs.graphs import check_graph, plan_of
from tideweir.graphs.laying import even_owners, lay_out
from tideweir.shifts.owners import owners_for
from tideweir.shifts.rescaling import regraph, rescale
from tideweir.values.keys import group_of

FIELDS = (("k", "text"), ("v", "whole"))
SOURCE = ("source", "s", FIELDS)
SECOND = ("source", "t", (("j", "text"), ("w", "whole")))
ALL = ("filter", ("value", True))
COUNT = ("group", ("k",), (("n", "count", None),))
TOTAL = ("group", (), (("n", "count", None),))
JOIN = ("join", (("k", "j"),))
PLAN = (SOURCE, ()), (COUNT, (0,))
TWO, THREE = even_owners(2), even_owners(3)
ODD = (0, 1) * 8


def taken(graph, logs, how="aligned", room=8):
    """The checkpoint of an engine that has come to rest."""
    engine = Engine(graph, logs, room)
    engine.rest()
    engine.trigger(how)
    engine.rest()
    return engine.checkpoint(1)


def events(time, texts):
    """Events of some texts."""
    return [("event", time, (text, 1)) for text in texts]


class Regraphed(ExactCase):
    def test_stages_with_as_many_tasks(self):
        graph = ([(SOURCE, 2, ODD), (ALL, 2, TWO), (COUNT, 2, ODD), (("sink",), 1, even_owners(1))],
                 [(0, 1, 0, "forward"), (1, 2, 0, ("k",)), (2, 3, 0, "one")])
        self.same(check_graph(graph), None)
        # The first stage with so many tasks that is no source tells the owners from which the new ones come.
        stages, edges = regraph(graph, [2, 2, 2])
        self.same([owners for _, _, owners in stages], [TWO, TWO, TWO, even_owners(1)])
        stages, edges = regraph(graph, [3, 4, 3])
        self.same([owners for _, _, owners in stages],
                  [owners_for(ODD, 3), owners_for(TWO, 4), owners_for(ODD, 3), even_owners(1)])
        self.same(edges, lay_out(plan_of(graph), [3, 4, 3])[1])
        self.leaves_alone(regraph, graph, [3, 4, 3])

    def test_without_a_stage_that_is_no_source(self):
        graph = ([(SOURCE, 2, ODD), (COUNT, 2, ODD), (("sink",), 1, even_owners(1))],
                 [(0, 1, 0, ("k",)), (1, 2, 0, "one")])
        stages, _ = regraph(graph, [2, 3])
        self.same([owners for _, _, owners in stages], [TWO, owners_for(ODD, 3), even_owners(1)])
        stages, _ = regraph(([(SOURCE, 2, ODD), (("sink",), 1, even_owners(1))], [(0, 1, 0, "one")]), [2])
        self.same(stages[0], (SOURCE, 2, TWO))

    def test_one_task(self):
        graph = lay_out(((SOURCE, ()), (TOTAL, (0,))), [2, 3])
        self.same(regraph(graph, [1, 4]), lay_out(((SOURCE, ()), (TOTAL, (0,))), [1, 4]))

    def test_by_chance(self):
        for seed in range(200):
            numbers = generator_of_numbers(seed)
            graph = random_graph(numbers)
            for _ in range(3):
                parallel = random_parallel(numbers, plan_of(graph))
                other = regraph(graph, parallel)
                laid = lay_out(plan_of(graph), parallel)
                self.same(check_graph(other), None)
                self.same((other[1], [stage[:2] for stage in other[0]]), (laid[1], [stage[:2] for stage in laid[0]]))
                for k, (_, many, owners) in enumerate(other[0][:-1]):
                    same = [j for j in range(len(other[0]) - 1)
                            if other[0][j][1] == many and other[0][j][0][0] != "source"]
                    self.same(owners, owners_for(graph[0][same[0]][2], many) if same else laid[0][k][2])
                graph = other


class Rescaled(ExactCase):
    def test_more_tasks(self):
        texts = "adgjmp"
        graph = lay_out(PLAN, [1, 1])
        checkpoint = taken(graph, {"s": [events(2, texts) + [("mark", 3)] + events(5, "ad")]})
        other = regraph(graph, [1, 3])
        told = rescale(graph, checkpoint, other)
        tasks = []
        for task in range(3):
            mine = [((text, 1), 1) for text in texts if THREE[group_of((text,))] == task]
            tasks.append((1, task, ([3], (3, [[]], [mine]))))
        self.assertTrue(all(state[1][2][0] for _, _, state in tasks))
        self.same(told, {
            "number": 1, "how": "aligned", "sources": [(0, 0, 9, 3, [(5, ("a", 1), 1), (5, ("d", 1), 1)])],
            "tasks": tasks, "channels": [], "marks": [3, 3, 3], "pending": [],
            "told": [(2, (text, 1), 1) for text in texts], "mark": 3})
        self.same(rescale(other, told, graph), checkpoint)
        self.leaves_alone(rescale, graph, checkpoint, other)

    def test_two_sides(self):
        join = (SOURCE, ()), (SECOND, ()), (JOIN, (0, 1))
        logs = {"s": [events(2, "adjm") + events(6, "ap") + [("mark", 9)]],
                "t": [events(1, "aj") + events(3, "m") + [("mark", 3)]]}
        graph = lay_out(join, [1, 1, 1])
        checkpoint = taken(graph, logs)
        self.same(checkpoint["tasks"], [(2, 0, ([9, 3], (3, [[(6, ("a", 1), 1), (6, ("p", 1), 1)], []], [
            [((text, 1), 1) for text in "adjm"], [((text, 1), 1) for text in "ajm"]])))])
        other = regraph(graph, [1, 1, 2])
        told = rescale(graph, checkpoint, other)

        def mine(task, texts):
            return [(text, 1) for text in texts if TWO[group_of((text,))] == task]

        self.same(told["tasks"], [
            (2, task, ([9, 3], (3, [[(6, row, 1) for row in mine(task, "ap")], []], [
                [(row, 1) for row in mine(task, "adjm")], [(row, 1) for row in mine(task, "ajm")]])))
            for task in range(2)])
        self.same((told["marks"], told["mark"]), ([3, 3], 3))

    def test_all_goes_to_one_task(self):
        union = (SOURCE, ()), (SECOND, ()), (("union",), (0, 1))
        logs = {"s": [events(6, "a") + [("mark", 9)], events(7, "b") + [("mark", 8)], [("mark", 9)]],
                "t": [[("mark", 5)], [("mark", 3)], [("mark", 3)]]}
        graph = lay_out(union, [3, 3, 3])
        checkpoint = taken(graph, logs)
        self.same(checkpoint["tasks"], [
            (2, 0, ([9, 5], (5, [[(6, ("a", 1), 1)], []], []))), (2, 1, ([8, 3], (3, [[(7, ("b", 1), 1)], []], []))),
            (2, 2, ([9, 3], (3, [[], []], [])))])
        # Nothing is known of where the rows lie: all go to the first task with the least mark.
        self.same(rescale(graph, checkpoint, graph)["tasks"], [
            (2, 0, ([9, 5], (5, [[], []], []))),
            (2, 1, ([8, 3], (3, [[(6, ("a", 1), 1), (7, ("b", 1), 1)], []], []))),
            (2, 2, ([9, 3], (3, [[], []], [])))])

    def test_the_lies_are_those_of_the_other_graph(self):
        union = (SOURCE, ()), (SECOND, ()), (("union",), (0, 1))
        logs = {"s": [events(6, "adgjmp") + [("mark", 9)], [("mark", 8)]], "t": [[("mark", 5)], [("mark", 3)]]}
        graph = lay_out(union, [2, 2, 2])
        checkpoint = taken(graph, logs)
        stages, edges = graph
        other = stages, [(0, 2, 0, ("k",)), (1, 2, 1, ("j",)), edges[2]]
        told = rescale(graph, checkpoint, other)
        mine = [[(6, (text, 1), 1) for text in "adgjmp" if TWO[group_of((text,))] == task] for task in range(2)]
        self.assertTrue(mine[0] and mine[1])
        self.same(told["tasks"], [(2, task, ([9, 8, 5, 3], (3, [mine[task], []], []))) for task in range(2)])
        back = rescale(other, told, graph)
        self.same(back["tasks"], [(2, 0, ([9, 5], (5, [[], []], []))),
                                  (2, 1, ([8, 3], (3, [[(6, (text, 1), 1) for text in "adgjmp"], []], [])))])

    def test_what_the_sink_has(self):
        graph = lay_out(((SOURCE, ()), (ALL, (0,))), [2, 2])
        checkpoint = taken(graph, {"s": [events(6, "a") + [("mark", 9)], events(2, "b") + [("mark", 4)]]})
        self.same((checkpoint["marks"], checkpoint["pending"], checkpoint["told"], checkpoint["mark"]),
                  ([9, 4], [(6, ("a", 1), 1)], [(2, ("b", 1), 1)], 4))
        for many, marks in ((1, [4]), (3, [4, 4, 4]), (2, [9, 4])):
            told = rescale(graph, checkpoint, regraph(graph, [2, many]))
            self.same((told["marks"], told["pending"], told["told"], told["mark"]),
                      (marks, [(6, ("a", 1), 1)], [(2, ("b", 1), 1)], 4))

    def test_a_checkpoint_rescaled_to_its_own_graph(self):
        kept = 0
        for seed in range(150):
            numbers = generator_of_numbers(seed)
            graph, _, engine = random_engine(numbers)
            go_on(numbers, engine)
            checkpoint = take(numbers, engine)
            told = rescale(graph, checkpoint, graph)
            self.same(told, PlainRescaled(checkpoint, graph).told())
            lies = PlainRescaled(checkpoint, graph).lies
            if None not in [lies.of_side(edge) for edge in graph[1]]:
                self.same(told, checkpoint)
                kept += 1
        self.assertGreater(kept, 20)

    def test_by_chance(self):
        for seed in range(200):
            numbers = generator_of_numbers(seed)
            graph, _, engine = random_engine(numbers)
            go_on(numbers, engine)
            checkpoint = take(numbers, engine)
            for _ in range(3):
                other = other_graph(numbers, graph)
                told = rescale(graph, checkpoint, other)
                self.same(told, PlainRescaled(checkpoint, other).told())
                graph, checkpoint = other, told

    def test_what_is_told_is_new(self):
        for seed in range(20):
            numbers = generator_of_numbers(seed)
            graph, _, engine = random_engine(numbers)
            go_on(numbers, engine)
            self.leaves_alone(rescale, graph, take(numbers, engine), other_graph(numbers, graph))


class Refused(ExactCase):
    def setUp(self):
        self.graph = lay_out(PLAN, [2, 1])
        self.logs = {"s": [events(1, "a") + [("mark", 1)], [("mark", 2)]]}
        self.checkpoint = taken(self.graph, self.logs)

    def wrong(self, error, message, graph, checkpoint, other):
        self.refused(error, message, rescale, graph, checkpoint, other)

    def test_graphs(self):
        stages, edges = self.graph
        faulty = stages, [(0, 1, 0, "forward"), edges[1]]
        cut = stages[:2], edges
        self.wrong(InvalidGraph, "edge 0 ships wrongly", faulty, self.checkpoint, cut)
        self.wrong(InvalidGraph, "the sink must be the last", cut, self.checkpoint, faulty)
        self.wrong(InvalidGraph, "edge 0 ships wrongly", self.graph, self.checkpoint, faulty)
        wrong = [stages[0], (("group", ("z",), ()), 1, even_owners(1)), stages[2]], edges
        self.wrong(InvalidPlan, "node 1: there is no column z", self.graph, self.checkpoint, wrong)

    def test_swift(self):
        swift = taken(self.graph, self.logs, "swift")
        self.wrong(NotTheSame, "the checkpoint is swift", self.graph, swift, self.graph)
        other = lay_out(((SOURCE, ()), (ALL, (0,))), [1, 1])
        self.wrong(NotTheSame, "the checkpoint is swift", self.graph, swift, other)
        self.wrong(InvalidGraph, "the sink must be the last", self.graph, swift, (other[0][:1], other[1]))

    def test_another_plan(self):
        for plan in (((SOURCE, ()), (ALL, (0,))), ((SOURCE, ()), (COUNT, (0,)), (ALL, (1,))), PLAN[:1],
                     ((("source", "t", FIELDS), ()), (COUNT, (0,)))):
            other = lay_out(plan, [1] * len(plan))
            self.wrong(NotTheSame, "that is another plan", self.graph, self.checkpoint, other)

    def test_true_is_not_1(self):
        plans = [((SOURCE, ()), (("filter", ("binary", "==", ("value", value), ("value", None))), (0,)))
                 for value in (1, True)]
        graph, other = [lay_out(plan, [1, 1]) for plan in plans]
        self.wrong(NotTheSame, "that is another plan", graph, taken(graph, self.logs), other)

    def test_sources_keep_their_tasks(self):
        self.wrong(NotTheSame, "source 0 keeps its tasks", self.graph, self.checkpoint, lay_out(PLAN, [1, 1]))
        plan = (SOURCE, ()), (ALL, (0,)), (SECOND, ()), (JOIN, (1, 2))
        logs = {"s": self.logs["s"], "t": [[], [], []]}
        graph = lay_out(plan, [2, 1, 3, 1])
        checkpoint = taken(graph, logs)
        self.wrong(NotTheSame, "source 2 keeps its tasks", graph, checkpoint, lay_out(plan, [2, 3, 1, 1]))
        self.wrong(NotTheSame, "source 0 keeps its tasks", graph, checkpoint, lay_out(plan, [1, 1, 1, 1]))
        self.same(rescale(graph, checkpoint, lay_out(plan, [2, 4, 3, 2]))["number"], 1)


if __name__ == "__main__":
    unittest.main()
