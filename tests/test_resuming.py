"""Points 74, 79 and 80: engines that are resumed, and what they commit behind shifts."""

import unittest

from tests.plain_meanings import plain_meaning, plain_source_flow, up_to
from tests.random_graphs import FIELDS_OF, random_entries, random_parallel
from tests.random_plans import random_plan
from tests.random_shifts import go_on, other_graph, random_engine, take
from tests.support import ExactCase, generator_of_numbers, spoil
from tideweir.engines.engine import Engine
from tideweir.errors import InvalidGraph, InvalidLogs, NotTheSame, TooFewPartitions, UnknownCheckpoint, UnknownSource
from tideweir.flows.flows import part_of, sum_flows, turned
from tideweir.graphs.graphs import plan_of
from tideweir.graphs.laying import lay_out
from tideweir.plans.rules import apply_rule, steps_of
from tideweir.shifts.replanning import replan
from tideweir.shifts.rescaling import rescale
from tideweir.shifts.resuming import resume

FIELDS = (("k", "text"), ("v", "whole"))
SOURCE = ("source", "s", FIELDS)
SECOND = ("source", "t", FIELDS)
ALL = ("filter", ("value", True))
COUNT = ("group", ("k",), (("n", "count", None),))
TOTAL = ("group", (), (("n", "count", None),))
END = ("mark", 1000000)
GRAPH = lay_out(((SOURCE, ()), (COUNT, (0,))), [1, 2])
LOGS = {"s": [[("event", 1, ("a", 1)), ("mark", 1), ("event", 4, ("a", 1)), ("event", 0, ("b", 1))]]}


def told_by(engine):
    """What an engine tells."""
    return [engine.is_down, engine.mark, engine.queues, engine.progress, engine.late, engine.choices(),
            engine.task_marks(), engine.output(), engine.states(), engine.committed(), engine.checkpoints]


def appended(numbers, engine, logs, sources):
    """Append entries somewhere."""
    name = numbers.choice(sources)
    partition = numbers.randrange(len(logs[name]))
    entries = random_entries(numbers, FIELDS_OF[name], numbers.randint(0, 3))
    logs[name][partition] += entries
    engine.append(name, partition, entries)


def ended(engine, logs, sources):
    """Let all partitions come to the end, and the engine commit all."""
    for name in sources:
        for partition, entries in enumerate(logs[name]):
            entries.append(END)
            engine.append(name, partition, [END])
    engine.rest()
    engine.trigger("swift")
    engine.rest()


def names_of(plan):
    """The sources of a plan."""
    return [operator[1] for operator, _ in plan if operator[0] == "source"]


class Resumed(ExactCase):
    def checkpoint(self):
        """A checkpoint of a graph that has told something, as the third one."""
        engine = Engine(GRAPH, LOGS, 2)
        engine.trigger("swift")
        engine.crash()
        engine.restore()
        engine.trigger("swift")
        engine.rest()
        engine.trigger("aligned")
        engine.rest()
        return engine.checkpoint(3)

    def test_what_it_tells(self):
        checkpoint = self.checkpoint()
        engine = resume(GRAPH, LOGS, 2, checkpoint, [])
        self.same(told_by(engine), [
            False, 1, [0, 0, 0, 0], [(0, 0, 4)], [(0, 0, 3)], [], [[1], [1, 1], [1]], [(1, ("a", 1), 1)],
            [(1, 0, ([1], (1, [[]], [[]]))), (1, 1, ([1], (1, [[]], [[(("a", 1), 1)]])))],
            [(1, ("a", 1), 1)], [3]])
        self.same((engine.checkpoint(3), engine.status(3)), (checkpoint, "committed"))

    def test_further_numbers_follow(self):
        engine = resume(GRAPH, LOGS, 2, self.checkpoint(), [])
        for number in (1, 2, 4, 0):
            for function in (engine.status, engine.checkpoint):
                with self.assertRaises(UnknownCheckpoint):
                    function(number)
        self.same((engine.trigger("aligned"), engine.status(4), engine.crash(), engine.restore()),
                  (4, "under way", 4, 3))
        self.same((engine.trigger("aligned"), engine.rest() > 0, engine.checkpoints), (5, True, [3, 5]))
        self.same([engine.status(number) for number in (3, 4, 5)], ["committed", "lost", "committed"])
        for number in range(6, 13):
            engine.trigger("swift")
            engine.rest()
            self.same(engine.status(number), "committed")
        self.same((engine.checkpoints, engine.status(3)), ([5, 6, 7, 8, 9, 10, 11, 12], "committed"))

    def test_what_was_told_is_added(self):
        checkpoint = self.checkpoint()
        one = (1, ("a", 1), 1)
        self.same(checkpoint["told"], [one])
        before = [(0, ("z", 9), 2)]
        self.same(resume(GRAPH, LOGS, 1, checkpoint, before).committed(), before + [one])
        self.same(resume(GRAPH, LOGS, 1, checkpoint, [one]).committed(), [(1, ("a", 1), 2)])
        checkpoint["told"] = []
        engine = resume(GRAPH, LOGS, 1, checkpoint, [one])
        self.same((engine.committed(), engine.output(), engine.mark), ([one], [one], 1))
        self.same(resume(GRAPH, LOGS, 1, checkpoint, []).committed(), [])

    def test_it_goes_on(self):
        engine = resume(GRAPH, LOGS, 2, self.checkpoint(), [])
        engine.append("s", 0, [("event", 3, ("b", 1)), ("event", 1, ("c", 1)), END])
        for _ in range(2):
            engine.rest()
            self.same(engine.output(), [(1, ("a", 1), 1), (3, ("b", 1), 1), (4, ("a", 1), -1), (4, ("a", 2), 1)])
            self.same(engine.late, [(0, 0, 3), (0, 0, 5)])
            self.same((engine.crash(), engine.output(), engine.restore()), (None, [(1, ("a", 1), 1)], 3))

    def test_what_is_refused(self):
        checkpoint = self.checkpoint()
        stages, edges = GRAPH
        self.refused(InvalidGraph, "the sink must be the last", resume, (stages[:2], edges), {}, 1, checkpoint, [])
        self.refused(UnknownSource, "s", resume, GRAPH, {}, 1, checkpoint, [])
        self.refused(InvalidLogs, "s has other fields", resume, GRAPH, {"s": [[("event", 1, (1, "a"))]]}, 1,
                     checkpoint, [])
        self.refused(TooFewPartitions, "s", resume, lay_out(plan_of(GRAPH), [2, 2]), LOGS, 1, checkpoint, [])

    def test_nothing_is_shared(self):
        for seed in range(30):
            numbers = generator_of_numbers(seed)
            graph, logs, engine = random_engine(numbers)
            go_on(numbers, engine)
            checkpoint, committed = take(numbers, engine, numbers.choice(("aligned", "swift"))), engine.committed()
            before = repr((graph, logs, checkpoint, committed))
            one = resume(graph, logs, 2, checkpoint, committed)
            other = resume(graph, logs, 2, checkpoint, committed)
            one.rest()
            self.assertEqual(repr((graph, logs, checkpoint, committed)), before)
            spoil([graph[0], graph[1], logs, checkpoint, committed])
            spoil(one.checkpoint(one.checkpoints[0]))
            other.crash()
            other.restore()
            other.rest()
            self.same(told_by(other), told_by(one))

    def test_it_goes_on_as_one_that_was_restored(self):
        for seed in range(150):
            numbers = generator_of_numbers(seed)
            graph, logs, _ = random_engine(numbers)
            room = numbers.randint(1, 3)
            engine = Engine(graph, logs, room)
            for _ in range(numbers.randint(1, 3)):
                go_on(numbers, engine)
                checkpoint = take(numbers, engine, numbers.choice(("aligned", "swift")))
            engine.crash()
            engine.restore()
            # What was committed ahead of it, without what it has told itself.
            ahead = sum_flows([engine.committed(), turned(checkpoint["told"])])
            other = resume(graph, logs, room, checkpoint, ahead)
            for _ in range(40):
                self.same(told_by(other)[:-1], told_by(engine)[:-1])
                drawn = [numbers.randrange(1000)]
                self.same(engine.run(drawn), other.run(drawn))


class Shifted(ExactCase):
    def moved_on(self, numbers, engine, logs, plan):
        """Steps, appended entries, and perhaps a crash."""
        for _ in range(numbers.randint(0, 3)):
            go_on(numbers, engine, 20)
            appended(numbers, engine, logs, names_of(plan))
        if numbers.random() < 0.3:
            engine.crash()
            if numbers.random() < 0.5:
                appended(numbers, engine, logs, names_of(plan))
            engine.restore()
            go_on(numbers, engine, 20)

    def handed_on(self, numbers, engine):
        """The checkpoint that is committed, and what was committed by it; some of it once, none twice."""
        checkpoint = take(numbers, engine)
        committed = engine.committed()
        if numbers.random() < 0.5:
            checkpoint["told"] = []
        else:
            committed = sum_flows([committed, turned(checkpoint["told"])])
        return checkpoint, committed

    def test_rescaling(self):
        for seed in range(120):
            numbers = generator_of_numbers(seed)
            graph, logs, engine = random_engine(numbers)
            plan = plan_of(graph)
            for _ in range(numbers.randint(1, 3)):
                self.moved_on(numbers, engine, logs, plan)
                checkpoint, committed = self.handed_on(numbers, engine)
                other = other_graph(numbers, graph)
                engine = resume(other, logs, numbers.randint(1, 3), rescale(graph, checkpoint, other), committed)
                graph = other
                self.same(engine.committed(), up_to(plain_meaning(plan, logs), engine.mark))
            self.moved_on(numbers, engine, logs, plan)
            self.same(engine.output(), up_to(plain_meaning(plan, logs), max(engine.mark, engine.task_marks()[-1][0])))
            ended(engine, logs, names_of(plan))
            self.same(engine.committed(), plain_meaning(plan, logs))

    def test_replanning_to_the_same_meaning(self):
        for seed in range(120):
            numbers = generator_of_numbers(seed)
            graph, logs, engine = random_engine(numbers)
            plan = plan_of(graph)
            for _ in range(numbers.randint(1, 3)):
                self.moved_on(numbers, engine, logs, plan)
                steps = [step for step in steps_of(plan)
                         if set(names_of(apply_rule(plan, *step))) == set(names_of(plan))]
                if not steps:
                    continue
                checkpoint, committed = self.handed_on(numbers, engine)
                plan = apply_rule(plan, *numbers.choice(steps))
                graph, new = replan(graph, checkpoint, logs, plan, self.parallel(numbers, plan, logs))
                if checkpoint["told"]:
                    committed = sum_flows([committed, checkpoint["told"]])
                engine = resume(graph, logs, numbers.randint(1, 3), new, committed)
                self.same(engine.committed(), up_to(plain_meaning(plan, logs), engine.mark))
            self.moved_on(numbers, engine, logs, plan)
            ended(engine, logs, names_of(plan))
            self.same(engine.committed(), plain_meaning(plan, logs))

    def parallel(self, numbers, plan, logs):
        """Numbers of tasks that the logs allow for."""
        return [min(many, len(logs[operator[1]])) if operator[0] == "source" else many
                for many, (operator, _) in zip(random_parallel(numbers, plan), plan)]

    def test_replanning_to_another_meaning(self):
        done = 0
        for seed in range(400):
            numbers = generator_of_numbers(seed)
            graph, logs, engine = random_engine(numbers)
            plan, other = plan_of(graph), random_plan(numbers)
            if not set(names_of(other)) <= set(names_of(plan)):
                continue
            self.moved_on(numbers, engine, logs, plan)
            checkpoint = take(numbers, engine)
            try:
                new_graph, new = replan(graph, checkpoint, logs, other, self.parallel(numbers, other, logs))
            except NotTheSame:
                continue
            done += 1
            cut = new["mark"]
            engine = resume(new_graph, logs, 2, new, engine.committed())
            self.same((engine.mark, engine.committed()), (cut, up_to(plain_meaning(plan, logs), cut)))
            self.moved_on(numbers, engine, logs, other)
            ended(engine, logs, names_of(other))
            self.same(engine.committed(), sum_flows([up_to(plain_meaning(plan, logs), cut),
                                                     part_of(plain_meaning(other, logs), cut, 1000000)]))
        self.assertGreater(done, 60)

    def test_a_shift_of_each_kind(self):
        logs = {"s": [[("event", 1, ("a", 1)), ("event", 2, ("a", 2)), ("mark", 1)], [("mark", 1)]]}
        graph = lay_out(((SOURCE, ()), (COUNT, (0,))), [2, 1])
        engine = Engine(graph, logs, 1)
        engine.rest()
        engine.trigger("aligned")
        engine.rest()
        checkpoint = engine.checkpoint(1)
        wide = lay_out(((SOURCE, ()), (COUNT, (0,))), [2, 4])
        engine = resume(wide, logs, 1, rescale(graph, checkpoint, wide), [])
        logs["s"][0].append(("mark", 2))
        logs["s"][1] += [("event", 1, ("a", 3)), ("event", 2, ("b", 1)), ("mark", 2)]
        engine.append("s", 0, [("mark", 2)])
        engine.append("s", 1, logs["s"][1][1:])
        engine.rest()
        engine.trigger("aligned")
        engine.rest()
        one, two = [(1, ("a", 1), 1)], [(2, ("a", 1), -1), (2, ("a", 2), 1), (2, ("b", 1), 1)]
        self.same((engine.committed(), engine.late), (one + two, [(0, 1, 1)]))
        self.same(plain_source_flow(logs["s"]), [(1, ("a", 1), 1), (2, ("a", 2), 1), (2, ("b", 1), 1)])
        total = (SOURCE, ()), (TOTAL, (0,))
        graph, checkpoint = replan(wide, engine.checkpoint(2), logs, total, [1, 1])
        engine = resume(graph, logs, 1, checkpoint, engine.committed())
        self.same((engine.trigger("swift"), engine.rest() > 0, engine.committed()), (3, True, one + two))
        for partition in (0, 1):
            engine.append("s", partition, [("event", 5, ("z", 1)), END])
        engine.rest()
        self.same(engine.output(), one + two + [(5, (3,), -1), (5, (5,), 1)])


if __name__ == "__main__":
    unittest.main()
