"""Point 78: checkpoints for another plan."""

import unittest
from copy import deepcopy

from tests.plain_engine import PlainEngine
from tests.plain_shifts import plain_mark_at_sink
from tests.random_graphs import partitions_wanted, random_logs, random_parallel
from tests.random_plans import random_plan
from tests.random_shifts import go_on, random_engine, take
from tests.support import ExactCase, generator_of_numbers
from tideweir.engines.engine import Engine
from tideweir.errors import InvalidGraph, InvalidLogs, InvalidPlan, NotTheSame, TooFewPartitions, UnknownSource
from tideweir.graphs.graphs import plan_of
from tideweir.graphs.laying import lay_out
from tideweir.plans.rules import apply_rule, steps_of
from tideweir.shifts.replanning import replan

FIELDS = (("k", "text"), ("v", "whole"))
SOURCE = ("source", "s", FIELDS)
SECOND = ("source", "t", FIELDS)
ALL = ("filter", ("value", True))
COUNT = ("group", ("k",), (("n", "count", None),))
TOTAL = ("group", (), (("n", "count", None),))
UNION = ("union",)


def event(time, text="a", number=1):
    """An event of the sources."""
    return ("event", time, (text, number))


def taken(graph, logs, how="aligned"):
    """The checkpoint of an engine that has come to rest."""
    engine = Engine(graph, logs, 8)
    engine.rest()
    engine.trigger(how)
    engine.rest()
    return engine.checkpoint(1)


def at_rest(graph, logs, number):
    """The checkpoint of what is written down once more, at rest on logs, with nothing told."""
    plain = PlainEngine(graph, logs, 8)
    while plain.choices():
        plain.do(plain.choices()[0])
    plain.trigger("aligned")
    while plain.choices():
        plain.do(plain.choices()[-1])
    told = plain.taken[1]
    told["number"], told["told"] = number, []
    return told


def is_of(graph, plan):
    """Whether a plan has no source that the graph does not have."""
    return all(operator in [stage[0] for stage in graph[0]] for operator, _ in plan if operator[0] == "source")


class Replanned(ExactCase):
    def test_key_by_key(self):
        graph = lay_out(((SOURCE, ()), (COUNT, (0,))), [2, 2])
        logs = {"s": [[event(1), ("mark", 2), event(2), event(5), ("mark", 4)], [event(3, "b"), ("mark", 3), event(9)]]}
        checkpoint = taken(graph, logs)
        checkpoint["number"] = 7
        plan = (SOURCE, ()), (("filter", ("binary", "==", ("column", "k"), ("value", "b"))), (0,)), (TOTAL, (1,))
        # What stands behind the entries that were read is not looked at.
        logs["s"][0].append(event(11))
        logs["s"][1].append(("mark", 8))
        told = replan(graph, checkpoint, logs, plan, [1, 2, 1])
        self.same(told[0], lay_out(plan, [1, 2, 1]))
        self.same(told[1], {
            "number": 7, "how": "aligned",
            "sources": [(0, 0, 5, 4, [(5, ("a", 1), 1)]), (0, 1, 3, 3, [(9, ("a", 1), 1)])],
            "tasks": [(1, 0, ([3], (3, [[]], []))), (1, 1, ([3], (3, [[]], []))),
                      (2, 0, ([3, 3], (3, [[]], [[(("b", 1), 1)]])))],
            "channels": [], "marks": [3], "pending": [], "told": [], "mark": 3})
        self.leaves_alone(replan, graph, checkpoint, logs, plan, [1, 2, 1])

    def test_what_the_sink_has(self):
        graph = lay_out(((SOURCE, ()),), [1])
        logs = {"s": [[event(1), event(5), ("mark", 6)], [("mark", 2)]]}
        checkpoint = taken(graph, logs)
        self.same((checkpoint["marks"], checkpoint["pending"], checkpoint["told"], checkpoint["mark"]),
                  ([2], [], [(1, ("a", 1), 1)], 2))
        told = replan(graph, checkpoint, logs, ((SOURCE, ()), (ALL, (0,))), [2, 2])[1]
        self.same((told["marks"], told["pending"], told["told"], told["mark"]),
                  ([6, 2], [(5, ("a", 1), 1)], [], 2))
        self.same(told["sources"], [(0, 0, 3, 6, []), (0, 1, 1, 2, [])])

    def test_a_plan_with_fewer_sources(self):
        graph = lay_out(((SOURCE, ()), (SECOND, ()), (UNION, (0, 1))), [1, 1, 1])
        logs = {"s": [[event(1), ("mark", 2)]], "t": [[event(2, "b"), ("mark", 5)]]}
        checkpoint = taken(graph, logs)
        told = replan(graph, checkpoint, logs, ((SOURCE, ()),), [1])[1]
        self.same((told["sources"], told["mark"]), ([(0, 0, 2, 2, [])], 2))
        self.refused(NotTheSame, "the marks differ", replan, graph, checkpoint, logs, ((SECOND, ()),), [1])

    def test_sources_in_another_order(self):
        graph = lay_out(((SOURCE, ()), (SECOND, ()), (UNION, (0, 1))), [1, 1, 1])
        logs = {"s": [[event(1), ("mark", 2)], [("mark", 7)]], "t": [[event(2, "b"), ("mark", 2)]]}
        checkpoint = taken(graph, logs)
        logs["s"][0].append(("mark", 9))
        told = replan(graph, checkpoint, logs, ((SECOND, ()), (SOURCE, ()), (UNION, (0, 1))), [1, 2, 1])[1]
        self.same(told["sources"], [(0, 0, 2, 2, []), (1, 0, 2, 2, []), (1, 1, 1, 7, [])])

    def test_plans_of_the_same_meaning(self):
        done = 0
        for seed in range(150):
            numbers = generator_of_numbers(seed)
            graph, logs, engine = random_engine(numbers)
            go_on(numbers, engine)
            checkpoint = take(numbers, engine)
            plan = plan_of(graph)
            if steps_of(plan):
                plan = apply_rule(plan, *numbers.choice(steps_of(plan)))
            done += self.replanned(numbers, graph, checkpoint, logs, plan)
        self.assertGreater(done, 100)

    def test_other_plans(self):
        done = 0
        for seed in range(300):
            numbers = generator_of_numbers(seed)
            graph, logs, engine = random_engine(numbers)
            go_on(numbers, engine)
            checkpoint = take(numbers, engine)
            plan = random_plan(numbers)
            if is_of(graph, plan):
                done += self.replanned(numbers, graph, checkpoint, logs, plan)
        self.assertGreater(done, 50)

    def replanned(self, numbers, graph, checkpoint, logs, plan):
        """The checkpoint is that of a job at rest on the logs as they were read."""
        parallel = [min(many, len(logs[operator[1]])) if operator[0] == "source" else many
                    for many, (operator, _) in zip(random_parallel(numbers, plan), plan)]
        cut = deepcopy(logs)
        for stage, partition, read, _, _ in checkpoint["sources"]:
            del cut[graph[0][stage][0][1]][partition][read:]
        wanted = at_rest(lay_out(plan, parallel), cut, checkpoint["number"])
        if plain_mark_at_sink(wanted, lay_out(plan, parallel)) != checkpoint["mark"]:
            self.refused(NotTheSame, "the marks differ", replan, graph, checkpoint, logs, plan, parallel)
            return 0
        self.same(replan(graph, checkpoint, logs, plan, parallel), (lay_out(plan, parallel), wanted))
        return 1


class Refused(ExactCase):
    def setUp(self):
        self.plan = (SOURCE, ()), (SECOND, ()), (UNION, (0, 1))
        self.graph = lay_out(self.plan, [1, 1, 1])
        self.logs = {"s": [[event(1), ("mark", 2)]], "t": [[event(2), ("mark", 5)]], "u": [[]]}
        self.checkpoint = taken(self.graph, self.logs)

    def wrong(self, error, message, plan, parallel, graph=None, checkpoint=None, logs=None):
        self.refused(error, message, replan, graph or self.graph, checkpoint or self.checkpoint,
                     self.logs if logs is None else logs, plan, parallel)

    def test_graphs(self):
        stages, edges = self.graph
        swift = taken(self.graph, self.logs, "swift")
        self.wrong(InvalidGraph, "edge 0 ships wrongly", (), [], (stages, [(0, 2, 0, ())] + edges[1:]), swift)
        faulty = [stages[0], stages[1], (("union", "z"), 2, stages[2][2]), stages[3]]
        self.wrong(InvalidGraph, "edge 0 ships wrongly", (), [], (faulty, edges), swift)

    def test_swift(self):
        swift = taken(self.graph, self.logs, "swift")
        self.wrong(NotTheSame, "the checkpoint is swift", (), [], checkpoint=swift)
        self.wrong(NotTheSame, "the checkpoint is swift", self.plan, [1, 1, 1], checkpoint=swift)

    def test_plans(self):
        self.wrong(InvalidPlan, "no nodes", (), [])
        self.wrong(InvalidPlan, "node 1: inputs", ((("source", "x", FIELDS), ()), (ALL, ())), [1, 1])
        self.wrong(InvalidGraph, "node 0 leads nowhere", ((("source", "x", FIELDS), ()), (SOURCE, ())), [1, 1])

    def test_sources(self):
        other = ("source", "s", FIELDS[:1])
        self.wrong(UnknownSource, "u", ((("source", "u", FIELDS), ()),), [1])
        self.wrong(UnknownSource, "s", ((other, ()),), [1])
        self.wrong(UnknownSource, "u", ((SOURCE, ()), (("source", "u", FIELDS), ()), (UNION, (0, 1))), [4, 1, 1])
        self.wrong(UnknownSource, "u", ((SOURCE, ()), (("source", "u", FIELDS), ()), (UNION, (0, 1))), [1, 1, 1],
                   logs={})

    def test_logs(self):
        self.wrong(UnknownSource, "s", self.plan, [1, 1, 1], logs={})
        self.wrong(UnknownSource, "t", self.plan, [1, 1, 1], logs={"s": self.logs["s"]})
        self.wrong(InvalidLogs, "t has other fields", self.plan, [1, 1, 1],
                   logs={"s": self.logs["s"], "t": [[event(2, 2)]]})
        self.wrong(TooFewPartitions, "t", self.plan, [1, 2, 1])
        self.wrong(TooFewPartitions, "s", self.plan, [3, 2, 1])

    def test_marks(self):
        self.wrong(NotTheSame, "the marks differ", ((SECOND, ()), (ALL, (0,))), [1, 1])
        self.wrong(TooFewPartitions, "t", ((SECOND, ()), (ALL, (0,))), [2, 1])
        self.same(replan(self.graph, self.checkpoint, self.logs, ((SOURCE, ()), (ALL, (0,))), [1, 1])[1]["mark"], 2)


class Logs(ExactCase):
    def test_entries_that_were_not_read_do_not_matter(self):
        for seed in range(40):
            numbers = generator_of_numbers(seed)
            graph, logs, engine = random_engine(numbers)
            go_on(numbers, engine)
            checkpoint = take(numbers, engine)
            plan = plan_of(graph)
            parallel = [stage[1] for stage in graph[0][:-1]]
            longer = random_logs(numbers, partitions=partitions_wanted(graph))
            for name in logs:
                for k, entries in enumerate(logs[name]):
                    entries += longer[name][k] if k < len(longer[name]) else []
            told = replan(graph, checkpoint, logs, plan, parallel)
            for stage, partition, read, _, _ in checkpoint["sources"]:
                del logs[graph[0][stage][0][1]][partition][read:]
            self.same(replan(graph, checkpoint, logs, plan, parallel), told)


if __name__ == "__main__":
    unittest.main()
