"""Points 1 to 4 and 12, and what is promised over the whole program: one meaning, whatever is done."""

import unittest

from tests.plain_meanings import plain_meaning, up_to
from tests.plain_operators import plain_define
from tests.random_graphs import (FIELDS_OF, partitions_wanted, random_entries, random_graph, random_logs,
                                 random_parallel)
from tests.random_operators import LEFT, RIGHT, WORDS, random_operator, sides_of_word
from tests.random_plans import SOURCES, random_plan
from tests.random_shifts import go_on, other_graph, take
from tests.support import ExactCase, generator_of_numbers
from tideweir.engines.engine import Engine
from tideweir.errors import InvalidOperator, TideweirError
from tideweir.flows.flows import check_flow, sum_flows
from tideweir.flows.logs import flow_of_source
from tideweir.flows.tables import is_events, is_lawful
from tideweir.graphs.graphs import plan_of
from tideweir.graphs.laying import lay_out
from tideweir.jobs.job import Job
from tideweir.operators.checks import check_operator
from tideweir.plans.costs import Search
from tideweir.plans.plans import fields_of, meaning
from tideweir.plans.rules import check_certificate
from tideweir.plans.tidying import tidied
from tideweir.shifts.replanning import replan
from tideweir.shifts.rescaling import regraph, rescale
from tideweir.shifts.resuming import resume
from tideweir.witnesses.audits import audit
from tideweir.witnesses.places import events_of, only_these
from tideweir.witnesses.reasons import impact, tells, weight_of, why

END = ("mark", 1000000)


def names_of(plan):
    """The names of the sources of a plan."""
    return [operator[1] for operator, _ in plan if operator[0] == "source"]


class OneMeaning(ExactCase):
    """The same plan and logs through all that the program can do."""

    def test_whatever_is_done_each_event_on_time_counts_once(self):
        shifted = 0
        for seed in range(100):
            numbers = generator_of_numbers(seed)
            graph = random_graph(numbers)
            logs = random_logs(numbers, partitions=partitions_wanted(graph))
            engine, plan = Engine(graph, logs, numbers.randint(1, 3)), plan_of(graph)
            for _ in range(numbers.randint(1, 5)):
                self.go_on(numbers, engine, plan, logs)
                self.same(audit(plan, logs, engine.committed(), engine.mark), None)
                self.same(audit(plan, logs, engine.output(), max(engine.mark, engine.task_marks()[-1][0])), None)
                graph, plan, engine, done = self.shift(numbers, graph, plan, logs, engine)
                shifted += done
            for name in names_of(plan):
                for partition, entries in enumerate(logs[name]):
                    entries.append(END)
                    engine.append(name, partition, [END])
            engine.rest()
            engine.trigger(numbers.choice(("aligned", "swift")))
            engine.rest()
            self.same((engine.mark, audit(plan, logs, engine.committed(), 1000000)), (1000000, None))
            self.same(engine.committed(), plain_meaning(plan, logs))
            self.explained(numbers, plan, logs, engine.committed())
        self.assertGreater(shifted, 150)

    def go_on(self, numbers, engine, plan, logs):
        """Steps, triggers, crashes, restores and entries."""
        for _ in range(numbers.randint(0, 4)):
            go_on(numbers, engine, 25)
            kind = numbers.random()
            name = numbers.choice(names_of(plan))
            if kind < 0.2:
                engine.crash()
                engine.restore()
            elif kind < 0.6:
                partition = numbers.randrange(len(logs[name]))
                entries = random_entries(numbers, FIELDS_OF[name], numbers.randint(0, 4))
                logs[name][partition] += entries
                engine.append(name, partition, entries)
            elif kind < 0.8:
                take(numbers, engine, "swift")

    def shift(self, numbers, graph, plan, logs, engine):
        """Another engine that goes on with another graph, or with the cheapest plan of the same meaning."""
        checkpoint = take(numbers, engine)
        checkpoint["told"], committed = [], engine.committed()
        if numbers.random() < 0.6:
            other = other_graph(numbers, graph)
            checkpoint = rescale(graph, checkpoint, other)
        else:
            search = Search(plan, {name: numbers.choice((0, 5, 1000)) for name in names_of(plan)})
            if set(names_of(search.best)) != set(names_of(plan)):
                return graph, plan, engine, 0
            self.same(check_certificate(tidied(plan), search.steps(), search.best), None)
            plan = search.best
            parallel = [min(many, len(logs[operator[1]])) if operator[0] == "source" else many
                        for many, (operator, _) in zip(random_parallel(numbers, plan), plan)]
            other, checkpoint = replan(graph, checkpoint, logs, plan, parallel)
        return other, plan, resume(other, logs, numbers.randint(1, 3), checkpoint, committed), 1

    def explained(self, numbers, plan, logs, flow):
        """Each row that is committed is told by what explains it, whatever other events there are."""
        for time, row, _ in numbers.sample(flow, min(3, len(flow))):
            weight = weight_of(plan, logs, time, row)
            if weight == 0:
                continue
            places = why(plan, logs, time, row)
            self.assertTrue(tells(plan, logs, places, time, row))
            more = sorted(set(places) | {place for place in events_of(logs) if numbers.random() < 0.4})
            self.same(weight_of(plan, only_these(logs, more), time, row), weight)

    def test_numbers_of_tasks_and_rooms_do_not_show(self):
        for seed in range(60):
            numbers = generator_of_numbers(seed)
            plan, logs = random_plan(numbers), random_logs(numbers, partitions={name: 4 for name in FIELDS_OF})
            wanted = plain_meaning(plan, logs)
            for many in (1, 2, 3, 4):
                job = Job(lay_out(plan, [many] * len(plan)), logs, numbers.randint(1, 8))
                job.run([numbers.randrange(1000) for _ in range(60)])
                job.rest()
                self.same(job.output(), up_to(wanted, job.mark))
                self.same(job.mark, min(max([-1] + [entry[1] for entry in entries if entry[0] == "mark"])
                                        for name in names_of(plan) for entries in logs[name]))

    def test_each_operator_on_each_number_of_tasks(self):
        for word in WORDS:
            for seed in range(12):
                numbers = generator_of_numbers(seed)
                plan = self.plan_of_word(numbers, word)
                logs = {"l": self.ended(numbers, LEFT), "r": self.ended(numbers, RIGHT)}
                flows = [flow_of_source(logs[name]) for name in names_of(plan)]
                wanted = plain_define(plan[-1][0], [own for own, _ in fields_of(plan)[:-1]], flows)
                for many in (1, 2, 3, 4):
                    job = Job(lay_out(plan, [numbers.randint(1, 4) for _ in flows] + [many]), logs, 1)
                    job.run([numbers.randrange(1000) for _ in range(100)])
                    job.rest()
                    self.same(job.output(), wanted)

    def ended(self, numbers, fields):
        """Four partitions that come to the end."""
        return [random_entries(numbers, fields, numbers.randint(0, 6)) + [END] for _ in range(4)]

    def plan_of_word(self, numbers, word):
        """A plan of one operator on sources."""
        fields = [LEFT, LEFT if word == "union" else RIGHT][:sides_of_word(word)]
        names = ["l", "r"][:len(fields)]
        if word == "union":
            fields = [LEFT, RIGHT]
        nodes = tuple((("source", name, own), ()) for name, own in zip(names, fields))
        while True:
            operator = random_operator(numbers, word, fields)
            try:
                check_operator(operator, [(own, "events") for own in fields])
                return nodes + ((operator, tuple(range(len(nodes)))),)
            except InvalidOperator:
                continue

    def test_outputs_are_flows_that_fit_and_are_lawful(self):
        for seed in range(100):
            numbers = generator_of_numbers(seed)
            graph = random_graph(numbers)
            logs = random_logs(numbers, partitions=partitions_wanted(graph))
            engine = Engine(graph, logs, 2)
            fields, kind = fields_of(plan_of(graph))[-1]
            for _ in range(10):
                go_on(numbers, engine, 20)
                for flow in (engine.output(), engine.committed()):
                    self.same(check_flow(flow, fields), None)
                    self.assertTrue(is_lawful(flow) and (kind == "table" or is_events(flow)))
                take(numbers, engine, "swift")

    def test_impacts_of_all_events_of_a_linear_plan_add_up(self):
        for seed in range(60):
            numbers = generator_of_numbers(seed)
            plan, logs = random_plan(numbers, 5, ("filter", "map", "union")), random_logs(numbers)
            found = [impact(plan, logs, place) for place in events_of(logs)]
            self.same(sum_flows(found), plain_meaning(plan, logs))


class Bounds(ExactCase):
    def test_the_first_and_the_last_times(self):
        fields = (("k", "whole"), ("v", "whole"))
        rows = [(0, (0, 10 ** 9)), (900000, (1, -10 ** 9)), (900000, (0, 10 ** 9))]
        entries = [("event", time, row) for time, row in rows] + [("mark", 999999), END]
        source = ("source", "s", fields)
        window = ("window", ("k",), ("hop", 5000, 5000), (("n", "sum", "v"),))
        late = ("map", (("j", ("column", "k")), ("s", ("column", "start")), ("e", ("column", "end"))))
        near = ("near", (("k", "j"),), -5000, 5000, "left")
        plan = (source, ()), (window, (0,)), (late, (1,)), (near, (0, 2))
        wanted = [(4999, (0, 10 ** 9, 0, 0, 5000), 1), (904999, (0, 10 ** 9, 0, 900000, 905000), 1),
                  (904999, (1, -10 ** 9, 1, 900000, 905000), 1)]
        self.same(plain_meaning(plan, {"s": [entries]}), wanted)
        for many in (1, 3):
            engine = Engine(lay_out(plan, [1] + [many] * 3), {"s": [entries]}, 1)
            engine.rest()
            engine.trigger("aligned")
            engine.rest()
            self.same((engine.mark, engine.committed()), (1000000, wanted))

    def test_marks_and_parcels(self):
        logs = {"s": [[("event", 0, ("a",)), ("mark", 0), ("event", 0, ("b",)), ("event", 1, ("c",)), END,
                       ("event", 900000, ("d",))]]}
        job = Job(lay_out(((("source", "s", (("k", "text"),)), ()),), [1]), logs, 8)
        job.rest()
        self.same((job.mark, job.output(), job.late),
                  (1000000, [(0, ("a",), 1), (1, ("c",), 1)], [(0, 0, 2), (0, 0, 5)]))

    def test_sixteen_nodes(self):
        source, all_ = SOURCES[0], ("filter", ("value", True))
        plan = ((source, ()),) + tuple((all_, (node,)) for node in range(15))
        logs = {"s": [[("event", 1, (3, "x")), ("mark", 4)], [("mark", 5)]]}
        job = Job(lay_out(plan, [2] + [4, 3] * 7 + [4]), logs, 1)
        job.rest()
        self.same((job.mark, job.output()), (4, [(1, (3, "x"), 1)]))


class Unchanged(ExactCase):
    def test_a_call_that_raises_changes_nothing(self):
        for seed in range(60):
            numbers = generator_of_numbers(seed)
            graph = random_graph(numbers)
            logs = random_logs(numbers, partitions=partitions_wanted(graph))
            engine = Engine(graph, logs, 2)
            for _ in range(8):
                go_on(numbers, engine, 15)
                if numbers.random() < 0.4:
                    (engine.restore if engine.is_down else engine.crash)()
                before = repr(told_by(engine))
                raised = 0
                for call in self.calls(numbers, engine):
                    try:
                        call()
                    except TideweirError:
                        raised += 1
                self.assertGreaterEqual(raised, 8)
                self.assertEqual(repr(told_by(engine)), before)
                if engine.is_down:
                    engine.restore()
                else:
                    take(numbers, engine, "swift")

    def calls(self, numbers, engine):
        """Calls that are refused, whatever the engine has done."""
        name, partition = "s", 99
        found = [lambda: engine.do(("take", 999)), lambda: engine.do(("read", 99, 0)), lambda: engine.do(("nothing",)),
                 lambda: engine.append("zz", 0, []), lambda: engine.append(name, partition, [END]),
                 lambda: engine.status(9999), lambda: engine.checkpoint(9999),
                 lambda: engine.append(name, 0, [END, ("event", 5, ("no", "such", "row", 1))])]
        if engine.is_down:
            return found + [lambda: engine.run([1, 2, 3]), engine.rest, engine.crash, lambda: engine.trigger("swift")]
        return found + [engine.restore]

    def test_what_a_job_is_made_of_may_be_used_again(self):
        for seed in range(30):
            numbers = generator_of_numbers(seed)
            graph = random_graph(numbers)
            logs = random_logs(numbers, partitions=partitions_wanted(graph))
            before = repr((graph, logs))
            told = []
            for _ in range(2):
                engine = Engine(graph, logs, 1)
                engine.rest()
                engine.append(names_of(plan_of(graph))[0], 0, [END])
                engine.trigger("aligned")
                engine.rest()
                regraph(graph, [many for _, many, _ in graph[0][:-1]])
                rescale(graph, engine.checkpoint(1), graph)
                told.append(repr(told_by(engine)))
                self.assertEqual(repr((graph, logs)), before)
            self.assertEqual(told[0], told[1])

    def test_meanings_of_logs(self):
        for seed in range(60):
            numbers = generator_of_numbers(seed)
            plan, logs = random_plan(numbers), random_logs(numbers)
            self.same(meaning(plan, {name: flow_of_source(logs[name]) for name in names_of(plan)}),
                      plain_meaning(plan, logs))


def told_by(engine):
    """All that an engine tells."""
    return [engine.is_down, engine.mark, engine.queues, engine.progress, engine.late, engine.choices(),
            engine.task_marks(), engine.output(), engine.states(), engine.committed(), engine.checkpoints,
            [engine.checkpoint(number) for number in engine.checkpoints]]


if __name__ == "__main__":
    unittest.main()
