"""Points 61 to 65: jobs, their choices, what is read, held, sent and taken, and the output."""

import unittest
from copy import deepcopy

from tests.plain_engine import PlainEngine
from tests.plain_meanings import plain_mark_of_logs, plain_meaning, up_to
from tests.random_graphs import FIELDS_OF, partitions_wanted, random_entries, random_graph, random_logs
from tests.support import ExactCase, generator_of_numbers, spoil
from tideweir.errors import InvalidChoice, InvalidGraph, InvalidLogs, InvalidPlan, TooFewPartitions, UnknownSource
from tideweir.graphs.graphs import plan_of
from tideweir.graphs.laying import even_owners, lay_out
from tideweir.jobs.job import Job
from tideweir.values.keys import group_of

FIELDS = (("k", "text"), ("v", "whole"))
OTHER = (("j", "text"), ("w", "whole"))
SOURCE = ("source", "s", FIELDS)
SECOND = ("source", "t", OTHER)
ALL = ("filter", ("value", True))
COUNT = ("group", ("k",), (("n", "count", None),))
END = ("mark", 1000000)


def event(time, text="a", number=1):
    """An event of the sources."""
    return ("event", time, (text, number))


def job_of(logs, *nodes, parallel=None, room=1):
    """A job of a plan that is laid out."""
    return Job(lay_out(nodes, parallel or [1] * len(nodes)), logs, room)


class OneTaskEach(ExactCase):
    def setUp(self):
        self.job = job_of({"s": [[event(3), event(2, "b"), ("mark", 2), event(2), event(5), ("mark", 1), ("mark", 4)]]},
                          (SOURCE, ()), (COUNT, (0,)))

    def told(self, choices, mark, queues, progress, late=()):
        """What is told of the job: choices, the sink's mark, parcels in the channels, entries read, late events."""
        self.same((self.job.choices(), self.job.mark, self.job.queues, self.job.progress, self.job.late),
                  (choices, mark, queues, [(0, 0, progress)], list(late)))

    def test_at_the_beginning(self):
        self.told([("read", 0, 0)], -1, [0, 0], 0)
        self.same(self.job.task_marks(), [[-1], [-1], [-1]])
        self.same(self.job.output(), [])
        self.same(self.job.states(), [(1, 0, ([-1], (-1, [[]], [[]])))])

    def test_step_by_step(self):
        read, job = ("read", 0, 0), self.job
        self.same([job.do(read), job.do(read)], [(-1, False), (-1, False)])
        self.told([read], -1, [0, 0], 2)
        self.same(job.do(read), (2, True))
        self.told([("take", 0)], -1, [1, 0], 3)
        self.same(job.task_marks(), [[2], [-1], [-1]])
        self.same(job.do(("take", 0)), (2, True))
        self.told([read, ("take", 1)], -1, [0, 1], 3)
        self.same(job.states(), [(1, 0, ([2], (2, [[]], [[(("b", 1), 1)]])))])
        self.same(job.do(read), (2, False))
        self.told([read, ("take", 1)], -1, [0, 1], 4, [(0, 0, 3)])
        self.same(job.do(("take", 1)), (2, False))
        self.told([read], 2, [0, 0], 4, [(0, 0, 3)])
        self.same(job.output(), [(2, ("b", 1), 1)])
        self.same([job.do(read), job.do(read)], [(2, False), (2, False)])
        self.told([read], 2, [0, 0], 6, [(0, 0, 3)])
        self.same(job.do(read), (4, True))
        self.same([job.do(("take", 0)), job.do(("take", 1))], [(4, True), (4, False)])
        self.told([], 4, [0, 0], 7, [(0, 0, 3)])
        self.same(job.output(), [(2, ("b", 1), 1), (3, ("a", 1), 1)])
        self.same(job.task_marks(), [[4], [4], [4]])

    def test_a_parcel_without_moves_is_sent_too(self):
        job = job_of({"s": [[("mark", 3), ("mark", 3), ("mark", 2), ("mark", 4)]]}, (SOURCE, ()), room=8)
        self.same([job.do(("read", 0, 0)) for _ in range(4)], [(3, True), (3, False), (3, False), (4, True)])
        self.same(job.queues, [2])
        self.same([job.do(("take", 0)), job.do(("take", 0))], [(3, False), (4, False)])
        self.same(job.output(), [])

    def test_events_that_are_alike_are_summed(self):
        job = job_of({"s": [[event(3), event(3), event(3), ("mark", 7)]]}, (SOURCE, ()))
        self.same(job.rest(), 5)
        self.same(job.output(), [(3, ("a", 1), 3)])

    def test_events_at_and_above_the_mark(self):
        job = job_of({"s": [[("mark", 5), event(5), event(6), event(0), ("mark", 6)]]}, (SOURCE, ()))
        self.same(job.rest(), 7)
        self.same(job.late, [(0, 0, 1), (0, 0, 3)])
        self.same(job.output(), [(6, ("a", 1), 1)])


class Room(ExactCase):
    def test_a_source_that_cannot_send_does_not_read(self):
        entries = [("mark", mark) for mark in range(5)]
        for room in (1, 2, 3):
            job = job_of({"s": [entries]}, (SOURCE, ()), room=room)
            for done in range(room):
                self.same(job.choices(), [("read", 0, 0)] + ([("take", 0)] if done else []))
                job.do(("read", 0, 0))
            self.same(job.choices(), [("take", 0)])
            self.same(job.queues, [room])
            job.do(("take", 0))
            self.same(job.choices(), [("read", 0, 0)] + ([("take", 0)] if room > 1 else []))

    def test_a_task_that_cannot_send_does_not_take(self):
        job = job_of({"s": [[("mark", mark) for mark in range(5)]]}, (SOURCE, ()), (ALL, (0,)))
        for choice in (("read", 0, 0), ("take", 0), ("read", 0, 0)):
            job.do(choice)
        self.same(job.choices(), [("take", 1)])
        self.refused(InvalidChoice, "that is none of the choices", job.do, ("take", 0))
        job.do(("take", 1))
        self.same(job.choices(), [("take", 0)])

    def test_one_full_channel_of_several_is_enough(self):
        other = ("map", (("j", ("column", "k")),))
        plan = (SOURCE, ()), (ALL, (0,)), (other, (0,)), (("join", (("k", "j"),)), (1, 2))
        job = job_of({"s": [[("mark", 1), ("mark", 2)]]}, *plan)
        job.do(("read", 0, 0))
        self.same(job.choices(), [("take", 0), ("take", 1)])
        job.do(("take", 0))
        self.same((job.queues, job.choices()), ([0, 1, 1, 0, 0], [("take", 1), ("take", 2)]))
        job.do(("take", 1))
        self.same((job.queues, job.choices()), ([0, 0, 1, 1, 0], [("read", 0, 0), ("take", 2), ("take", 3)]))
        self.same([job.do(("take", 2)), job.do(("take", 3))], [(-1, False), (1, True)])


class SeveralTasks(ExactCase):
    def test_partitions_are_read_by_tasks_in_turn(self):
        logs = {"s": [[("mark", 5)], [("mark", 6)], [("mark", 3)], [("mark", 9)]]}
        job = job_of(logs, (SOURCE, ()), parallel=[2])
        self.same(job.choices(), [("read", 0, 0), ("read", 0, 1), ("read", 0, 2), ("read", 0, 3)])
        self.same(job.do(("read", 0, 0)), (-1, False))
        self.same(job.do(("read", 0, 2)), (3, True))
        self.same(job.choices(), [("read", 0, 1), ("read", 0, 3), ("take", 0)])
        self.same(job.do(("read", 0, 1)), (-1, False))
        self.same(job.do(("read", 0, 3)), (6, True))
        self.same(job.task_marks(), [[3, 6], [-1]])
        self.same(job.do(("take", 1)), (-1, False))
        self.same(job.do(("take", 0)), (3, False))
        self.same(job.task_marks(), [[3, 6], [3]])
        self.same(job.progress, [(0, 0, 1), (0, 1, 1), (0, 2, 1), (0, 3, 1)])

    def test_a_source_sends_the_events_of_all_its_partitions(self):
        logs = {"s": [[event(4), event(7, "c"), ("mark", 5)], [event(2), event(4), ("mark", 8)]]}
        job = job_of(logs, (SOURCE, ()), parallel=[1])
        for choice in [("read", 0, 0)] * 3 + [("read", 0, 1)] * 3:
            job.do(choice)
        self.same(job.do(("take", 0)), (5, False))
        self.same(job.output(), [(2, ("a", 1), 1), (4, ("a", 1), 2)])
        job.append("s", 0, [("mark", 7)])
        self.same([job.do(("read", 0, 0)), job.do(("take", 0))], [(7, True), (7, False)])
        self.same(job.output(), [(2, ("a", 1), 1), (4, ("a", 1), 2), (7, ("c", 1), 1)])

    def test_rows_go_to_the_owners_of_their_key_groups(self):
        rows = [(text, number) for text in "abcdefgh" for number in (1, 2)]
        entries = [("event", 1, row) for row in rows] + [("mark", 1)]
        job = job_of({"s": [entries]}, (SOURCE, ()), (("distinct",), (0,)), parallel=[1, 3])
        while ("read", 0, 0) in job.choices():
            job.do(("read", 0, 0))
        self.same(job.queues, [1, 1, 1, 0, 0, 0])
        for task in range(3):
            self.same(job.do(("take", task)), (1, True))
        for task, (stage, number, (_, (mark, _, kept))) in enumerate(job.states()):
            mine = sorted(row for row in rows if even_owners(3)[group_of(row)] == task)
            self.same((stage, number, mark, kept), (1, task, 1, [[(row, 1) for row in mine]]))

    def test_a_parcel_goes_also_where_it_has_no_moves(self):
        job = job_of({"s": [[event(1), ("mark", 1)]]}, (SOURCE, ()), (COUNT, (0,)), parallel=[1, 4])
        job.rest()
        self.same(job.task_marks(), [[1], [1] * 4, [1]])
        self.same(job.output(), [(1, ("a", 1), 1)])

    def test_two_sources(self):
        join = ("join", (("k", "j"),))
        logs = {"s": [[event(1), ("mark", 4)]], "t": [[event(2, "a", 7), ("mark", 3)]]}
        job = job_of(logs, (SOURCE, ()), (SECOND, ()), (join, (0, 1)))
        self.same(job.choices(), [("read", 0, 0), ("read", 1, 0)])
        job.rest()
        self.same((job.mark, job.task_marks()), (3, [[4], [3], [3], [3]]))
        self.same(job.output(), [(2, ("a", 1, "a", 7), 1)])
        self.same(job.states(), [(2, 0, ([4, 3], (3, [[], []], [[(("a", 1), 1)], [(("a", 7), 1)]])))])

    def test_a_source_that_stands_there_twice(self):
        graph = ([(SOURCE, 1, even_owners(1)), (SOURCE, 1, even_owners(1)), (("union",), 1, even_owners(1)),
                  (("sink",), 1, even_owners(1))],
                 [(0, 2, 0, "one"), (1, 2, 1, "one"), (2, 3, 0, "one")])
        job = Job(graph, {"s": [[event(1), ("mark", 0), event(0)]]}, 1)
        self.same(job.append("s", 0, [("mark", 1)]), 4)
        self.same(job.choices(), [("read", 0, 0), ("read", 1, 0)])
        job.rest()
        self.same(job.output(), [(1, ("a", 1), 2)])
        self.same(job.late, [(0, 0, 2), (1, 0, 2)])
        self.same(job.progress, [(0, 0, 4), (1, 0, 4)])


class Refused(ExactCase):
    def test_graphs(self):
        logs = {"s": [[]]}
        stages, edges = lay_out(((SOURCE, ()), (ALL, (0,))), [1, 1])
        self.refused(InvalidGraph, "the sink must be the last", Job, (stages[:2], edges), logs, 1)
        self.refused(InvalidGraph, "edge 0 ships wrongly", Job, (stages, [(0, 1, 0, ("z",)), edges[1]]), logs, 1)
        stages[1] = (("filter", ("column", "k")), 1, even_owners(1))
        self.refused(InvalidPlan, "node 1: types differ", Job, (stages, edges), {}, 1)

    def test_logs(self):
        graph = lay_out(((SOURCE, ()), (SECOND, ()), (("union",), (0, 1))), [2, 2, 1])
        right, wrong = [[event(1)], []], [[], [event(1, 1, 1)]]
        self.refused(UnknownSource, "s", Job, graph, {}, 1)
        self.refused(UnknownSource, "s", Job, graph, {"t": wrong}, 1)
        self.refused(UnknownSource, "t", Job, graph, {"s": right}, 1)
        self.refused(InvalidLogs, "s has other fields", Job, graph, {"s": wrong}, 1)
        self.refused(InvalidLogs, "s has other fields", Job, graph, {"s": wrong[1:], "t": right}, 1)
        self.refused(InvalidLogs, "t has other fields", Job, graph, {"s": right, "t": wrong}, 1)
        self.refused(TooFewPartitions, "s", Job, graph, {"s": right[:1], "t": wrong}, 1)
        self.refused(TooFewPartitions, "t", Job, graph, {"s": right, "t": right[:1]}, 1)
        self.refused(InvalidLogs, "s has other fields", Job, graph,
                     {"s": [[("mark", 5), event(1, None, True)], []], "t": right}, 1)
        self.same(Job(graph, {"s": right, "t": right, "u": wrong}, 1).mark, -1)

    def test_choices(self):
        job = job_of({"s": [[event(1), ("mark", 3)], []]}, (SOURCE, ()), parallel=[2])
        job.do(("read", 0, 0))
        before = job.progress, job.queues, job.task_marks()
        for choice in (("read", 0, 1), ("read", 0, 2), ("read", 1, 0), ("read", 0, -1), ("take", 0), ("take", 5),
                       ("take", -1), ("commit",), ("barrier", 0, 0), ("read", 0), ()):
            self.refused(InvalidChoice, "that is none of the choices", job.do, choice)
        self.same((job.progress, job.queues, job.task_marks()), before)
        self.same(job.do(("read", 0, 0)), (3, True))

    def test_appending(self):
        job = job_of({"s": [[event(1)], []], "t": [[]]}, (SOURCE, ()))
        self.refused(UnknownSource, "t", job.append, "t", 0, [])
        self.refused(UnknownSource, "x", job.append, "x", 9, [event(1, None, "x")])
        self.refused(InvalidLogs, "no such partition", job.append, "s", 2, [])
        self.refused(InvalidLogs, "no such partition", job.append, "s", -1, [event(1, "a", "x")])
        self.refused(InvalidLogs, "s has other fields", job.append, "s", 1, [("mark", 3), event(1, "a", "x")])
        self.same(job.append("s", 1, []), 0)
        self.same(job.append("s", 0, [END]), 2)
        self.same(job.progress, [(0, 0, 0), (0, 1, 0)])


class Sharing(ExactCase):
    def test_arguments_are_neither_changed_nor_kept(self):
        graph = lay_out(((SOURCE, ()), (COUNT, (0,))), [1, 2])
        logs, entries = {"s": [[event(1), ("mark", 1)]]}, [event(5), END]
        before = repr((graph, logs, entries))
        job = Job(graph, logs, 2)
        job.append("s", 0, entries)
        job.run([0, 1, 2])
        self.same((graph, logs, entries), eval(before))
        spoil([graph[0], graph[1], logs, entries])
        job.rest()
        self.same(job.output(), [(1, ("a", 1), 1), (5, ("a", 1), -1), (5, ("a", 2), 1)])

    def test_what_is_told_is_new(self):
        job = job_of({"s": [[event(1), ("mark", 1), event(1), event(3)], [("mark", 2)]]}, (SOURCE, ()), (COUNT, (0,)))
        job.run([0] * 9)
        job.append("s", 0, [("mark", 6)])

        def told():
            return [job.choices(), job.task_marks(), job.queues, job.progress, job.late, job.output(), job.states()]

        before = repr(told())
        spoil(told())
        self.assertEqual(repr(told()), before)

    def test_jobs_of_the_same_logs_have_nothing_in_common(self):
        graph, logs = lay_out(((SOURCE, ()),), [1]), {"s": [[event(1)]]}
        one, other = Job(graph, logs, 1), Job(graph, logs, 1)
        one.append("s", 0, [END])
        one.rest()
        self.same((other.rest(), other.progress, other.output()), (1, [(0, 0, 1)], []))


class ManySteps(ExactCase):
    def test_run_does_the_choice_at_the_remainder(self):
        logs = {"s": [[("mark", 1)], [("mark", 2)], [("mark", 3)]]}
        job = job_of(logs, (SOURCE, ()), parallel=[3])
        self.same(job.run([4, 7]), 2)
        self.same(job.progress, [(0, 0, 0), (0, 1, 1), (0, 2, 1)])
        self.same(job.run([]), 0)
        self.same(job.choices(), [("read", 0, 0), ("take", 1), ("take", 2)])
        self.same(job.run([5, -1, 1000000, 3, 3, 3]), 4)
        self.same((job.mark, job.choices(), job.run([1]), job.rest()), (1, [], 0, 0))

    def test_run_does_what_do_does(self):
        for seed in range(40):
            numbers = generator_of_numbers(seed)
            graph = random_graph(numbers)
            logs = random_logs(numbers, partitions=partitions_wanted(graph))
            one, other = Job(graph, logs, 2), Job(graph, logs, 2)
            for _ in range(30):
                number = numbers.randrange(100)
                done = 0
                if other.choices():
                    other.do(other.choices()[number % len(other.choices())])
                    done = 1
                self.same(one.run([number]), done)
                self.same((one.queues, one.progress, one.states()), (other.queues, other.progress, other.states()))

    def test_rest_does_the_first_choice(self):
        for seed in range(40):
            numbers = generator_of_numbers(seed)
            graph = random_graph(numbers)
            logs = random_logs(numbers, partitions=partitions_wanted(graph))
            one, other = Job(graph, logs, 1), Job(graph, logs, 1)
            done = 0
            while other.choices():
                other.do(other.choices()[0])
                done += 1
            self.same(one.rest(), done)
            self.same((one.output(), one.states()), (other.output(), other.states()))


class ByChance(ExactCase):
    def drawn(self, seed):
        """A job, the same written down once more, and its logs."""
        numbers = generator_of_numbers(seed)
        graph = random_graph(numbers)
        logs = random_logs(numbers, partitions=partitions_wanted(graph))
        room = numbers.choice((1, 1, 2, 3, 8))
        return numbers, Job(graph, logs, room), PlainEngine(graph, logs, room)

    def append(self, numbers, job, plain):
        """Append entries somewhere."""
        name = numbers.choice([operator[1] for operator, _, _ in plain.stages if operator[0] == "source"])
        partition = numbers.randrange(len(plain.logs[name]))
        entries = random_entries(numbers, FIELDS_OF[name], numbers.randint(0, 3))
        plain.logs[name][partition] += entries
        self.same(job.append(name, partition, entries), len(plain.logs[name][partition]))

    def alike(self, job, plain):
        told = plain.told()
        self.same([job.choices(), job.queues, job.progress, job.late, job.task_marks(), job.output(), job.states()],
                  [told["choices"], told["queues"], told["progress"], told["late"], told["task_marks"],
                   told["output"], plain.states()])
        self.same(job.mark, told["task_marks"][-1][0])

    def test_it_is_what_the_document_says(self):
        for seed in range(150):
            numbers, job, plain = self.drawn(seed)
            for _ in range(numbers.randint(5, 60)):
                if numbers.random() < 0.05:
                    self.append(numbers, job, plain)
                elif job.choices():
                    choice = numbers.choice(job.choices())
                    self.same(job.do(choice), plain.do(choice))
                self.alike(job, plain)

    def test_the_output_is_the_part_of_the_meaning_at_every_step(self):
        for seed in range(150):
            numbers, job, plain = self.drawn(seed)
            plan = plan_of(plain.graph)
            for _ in range(numbers.randint(5, 60)):
                if numbers.random() < 0.05:
                    self.append(numbers, job, plain)
                elif job.choices():
                    job.do(numbers.choice(job.choices()))
                self.same(job.output(), up_to(plain_meaning(plan, plain.logs), job.mark))

    def test_every_row_of_choices_ends_with_all_read_and_all_channels_empty(self):
        for seed in range(150):
            numbers, job, plain = self.drawn(seed)
            plan = plan_of(plain.graph)
            for _ in range(numbers.randint(1, 3)):
                self.append(numbers, job, plain)
                while job.choices():
                    job.do(numbers.choice(job.choices()))
                self.assertEqual(set(job.queues), {0})
                for stage, partition, read in job.progress:
                    self.same(read, len(plain.logs[plain.stages[stage][0][1]][partition]))
                mark = plain_mark_of_logs(plan, plain.logs)
                self.same(job.mark, mark)
                self.same(job.output(), up_to(plain_meaning(plan, plain.logs), mark))

    def test_there_is_a_choice_as_long_as_something_is_left(self):
        for seed in range(100):
            _, job, plain = self.drawn(seed)
            for _ in range(200):
                left = sum(job.queues) > 0 or any(
                    read < len(plain.logs[plain.stages[stage][0][1]][partition])
                    for stage, partition, read in job.progress)
                self.same(job.choices() != [], left)
                # Where sources read whenever they can, all channels fill up; where the sink takes first, none does.
                if left:
                    job.do(job.choices()[0 if seed % 2 else -1])

    def test_at_rest_it_does_not_show_when_entries_came(self):
        for seed in range(80):
            numbers, job, plain = self.drawn(seed)
            whole = deepcopy(plain.logs)
            early = {name: [numbers.randint(0, len(own)) for own in whole[name]] for name in whole}
            begun = Job(plain.graph, {name: [own[:many] for own, many in zip(whole[name], early[name])]
                                      for name in whole}, numbers.randint(1, 3))
            left = [(name, k) for name in partitions_wanted(plain.graph) for k in range(len(whole[name]))]
            numbers.shuffle(left)
            for name, k in left:
                begun.run([numbers.randrange(1000) for _ in range(numbers.randint(0, 20))])
                begun.append(name, k, whole[name][k][early[name][k]:])
            job.rest()
            begun.rest()
            self.same((begun.output(), begun.mark, begun.late, begun.task_marks(), begun.states()),
                      (job.output(), job.mark, job.late, job.task_marks(), job.states()))


if __name__ == "__main__":
    unittest.main()
