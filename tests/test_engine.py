"""Points 66 to 73: engines, their barriers, checkpoints, commits, crashes and restores."""

import unittest

from tests.random_graphs import partitions_wanted, random_graph, random_logs
from tests.support import ExactCase, generator_of_numbers, spoil
from tideweir.engines.engine import Engine
from tideweir.errors import (EngineDown, EngineUp, InvalidChoice, InvalidGraph, InvalidLogs, TooFewPartitions,
                             UnderWay, UnknownCheckpoint, UnknownSource)
from tideweir.graphs.laying import lay_out
from tideweir.jobs.job import Job

FIELDS = (("k", "text"), ("v", "whole"))
SOURCE = ("source", "s", FIELDS)
SECOND = ("source", "t", FIELDS)
ALL = ("filter", ("value", True))
COUNT = ("group", ("k",), (("n", "count", None),))
UNION = ("union",)
CHAIN = (SOURCE, ()), (ALL, (0,))
BOTH = (SOURCE, ()), (SECOND, ()), (UNION, (0, 1))
END = ("mark", 1000000)


def event(time, text="a", number=1):
    """An event of the sources."""
    return ("event", time, (text, number))


def engine_of(plan, logs, parallel=None, room=1):
    """An engine of a plan that is laid out."""
    return Engine(lay_out(plan, parallel or [1] * len(plan)), logs, room)


class EngineCase(ExactCase):
    def all_done(self, engine, *choices):
        """Do choices one after the other, each of which has to be there; return what the last one told."""
        told = None
        for choice in choices:
            self.assertIn(choice, engine.choices())
            told = engine.do(choice)
        return told


class AtTheBeginning(EngineCase):
    def test_a_new_engine(self):
        engine = engine_of(CHAIN, {"s": [[event(1)], []]})
        self.same((engine.is_down, engine.mark, engine.committed(), engine.output(), engine.checkpoints),
                  (False, -1, [], [], []))
        self.same((engine.queues, engine.progress, engine.late, engine.task_marks()),
                  ([0, 0], [(0, 0, 0), (0, 1, 0)], [], [[-1], [-1], [-1]]))
        self.same(engine.states(), [(1, 0, ([-1], (-1, [[]], [])))])
        self.same(engine.choices(), [("read", 0, 0)])

    def test_what_is_refused(self):
        graph = lay_out(CHAIN, [2, 1])
        self.refused(InvalidGraph, "edge 0 ships wrongly", Engine, (graph[0], [(0, 1, 0, ())] + graph[1][1:]), {}, 1)
        self.refused(UnknownSource, "s", Engine, graph, {"t": [[], []]}, 1)
        self.refused(InvalidLogs, "s has other fields", Engine, graph, {"s": [[("event", 1, ("a",))]]}, 1)
        self.refused(TooFewPartitions, "s", Engine, graph, {"s": [[]]}, 1)

    def test_it_is_a_job_as_long_as_nothing_is_triggered(self):
        for seed in range(60):
            numbers = generator_of_numbers(seed)
            graph = random_graph(numbers)
            logs = random_logs(numbers, partitions=partitions_wanted(graph))
            engine, job = Engine(graph, logs, 2), Job(graph, logs, 2)
            for _ in range(30):
                drawn = [numbers.randrange(100) for _ in range(3)]
                self.same(engine.run(drawn), job.run(drawn))
                self.same((engine.queues, engine.progress, engine.late, engine.task_marks(), engine.output(),
                           engine.states(), engine.choices()),
                          (job.queues, job.progress, job.late, job.task_marks(), job.output(), job.states(),
                           job.choices()))
            self.same((engine.rest(), engine.mark, engine.committed()), (job.rest(), -1, []))

    def test_appending(self):
        engine = engine_of(CHAIN, {"s": [[]], "t": [[]]})
        self.same(engine.append("s", 0, [event(1), ("mark", 1)]), 2)
        self.refused(UnknownSource, "t", engine.append, "t", 0, [])
        self.refused(InvalidLogs, "no such partition", engine.append, "s", 1, [])
        self.refused(InvalidLogs, "s has other fields", engine.append, "s", 0, [("mark", 2), ("event", 3, (1, 1))])
        self.same((engine.rest(), engine.output(), engine.progress), (4, [(1, ("a", 1), 1)], [(0, 0, 2)]))


class Aligned(EngineCase):
    def test_one_task_behind_the_other(self):
        engine = engine_of(CHAIN, {"s": [[event(1), event(4), ("mark", 2), ("mark", 5)]]})
        self.all_done(engine, *[("read", 0, 0)] * 3)
        self.same(engine.trigger("aligned"), 1)
        self.same((engine.status(1), engine.checkpoints), ("under way", []))
        # It does not read as long as it owes a barrier.
        self.same(engine.choices(), [("barrier", 0, 0), ("take", 0)])
        self.same(engine.do(("barrier", 0, 0)), (2, False))
        self.same((engine.choices(), engine.queues), ([("take", 0)], [1, 0]))
        self.same(engine.do(("take", 0)), (2, True))
        self.same(engine.choices(), [("read", 0, 0), ("take", 0), ("take", 1)])
        # The barrier counts for no room: it is taken although the parcel is still there.
        self.same(engine.do(("take", 0)), (2, False))
        self.same((engine.queues, engine.choices()), ([0, 1], [("read", 0, 0), ("take", 1)]))
        self.same(engine.do(("take", 1)), (2, False))
        self.same(engine.output(), [(1, ("a", 1), 1)])
        self.same((engine.status(1), engine.choices()), ("under way", [("read", 0, 0), ("take", 1)]))
        self.same(engine.do(("take", 1)), (2, False))
        self.same((engine.status(1), engine.checkpoints), ("complete", [1]))
        self.same(engine.choices(), [("commit",), ("read", 0, 0)])
        self.same((engine.committed(), engine.mark), ([], -1))
        self.same(engine.do(("commit",)), (2, False))
        self.same((engine.committed(), engine.mark, engine.status(1)), ([(1, ("a", 1), 1)], 2, "committed"))
        self.same((engine.choices(), engine.output()), ([("read", 0, 0)], [(1, ("a", 1), 1)]))
        self.same(engine.checkpoint(1), {
            "number": 1, "how": "aligned", "sources": [(0, 0, 3, 2, [(4, ("a", 1), 1)])],
            "tasks": [(1, 0, ([2], (2, [[]], [])))], "channels": [], "marks": [2], "pending": [],
            "told": [(1, ("a", 1), 1)], "mark": 2})

    def test_a_channel_is_blocked_until_the_barrier_has_come_from_all(self):
        engine = engine_of(BOTH, {"s": [[("mark", 1), event(3), ("mark", 4)]], "t": [[event(1), ("mark", 2)]]}, room=2)
        engine.trigger("aligned")
        self.same(engine.choices(), [("barrier", 0, 0), ("barrier", 1, 0)])
        self.same(self.all_done(engine, ("barrier", 0, 0), ("take", 0)), (-1, False))
        self.same(self.all_done(engine, *[("read", 0, 0)] * 3), (4, True))
        self.same((engine.queues, engine.choices()), ([2, 0, 0], [("barrier", 1, 0)]))
        self.refused(InvalidChoice, "that is none of the choices", engine.do, ("take", 0))
        self.refused(InvalidChoice, "that is none of the choices", engine.do, ("read", 1, 0))
        engine.do(("barrier", 1, 0))
        self.same(engine.choices(), [("read", 1, 0), ("take", 1)])
        self.same(engine.do(("take", 1)), (-1, False))
        # The task is through, and goes on; the barrier is on its way to the sink.
        self.same(engine.choices(), [("read", 1, 0), ("take", 0), ("take", 2)])
        self.same(self.all_done(engine, ("take", 0), ("take", 0), ("read", 1, 0), ("read", 1, 0), ("take", 1)),
                  (2, True))
        self.same(self.all_done(engine, ("take", 2)), (-1, False))
        self.same((engine.status(1), engine.queues), ("complete", [0, 0, 1]))
        self.same(engine.checkpoint(1), {
            "number": 1, "how": "aligned", "sources": [(0, 0, 0, -1, []), (1, 0, 0, -1, [])],
            "tasks": [(2, 0, ([-1, -1], (-1, [[], []], [])))], "channels": [], "marks": [-1], "pending": [],
            "told": [], "mark": -1})
        self.same(engine.rest(), 2)
        self.same((engine.output(), engine.committed(), engine.mark), ([(1, ("a", 1), 1)], [], -1))

    def test_what_is_pending_in_a_task_is_noted(self):
        engine = engine_of(BOTH, {"s": [[event(3), ("mark", 4)]], "t": [[("mark", 2), event(7), ("mark", 9)]]}, room=3)
        engine.rest()
        engine.trigger("aligned")
        engine.append("t", 0, [event(12), ("mark", 11)])
        engine.rest()
        self.same(engine.checkpoint(1), {
            "number": 1, "how": "aligned",
            "sources": [(0, 0, 2, 4, []), (1, 0, 3, 9, [])],
            "tasks": [(2, 0, ([4, 9], (4, [[], [(7, ("a", 1), 1)]], [])))],
            "channels": [], "marks": [4], "pending": [], "told": [(3, ("a", 1), 1)], "mark": 4})
        self.same(engine.states(), [(2, 0, ([4, 11], (4, [[], [(7, ("a", 1), 1)]], [])))])

    def test_what_is_pending_at_the_sink_is_noted(self):
        engine = engine_of(((SOURCE, ()),), {"s": [[event(3), ("mark", 4)], [("mark", 1)]]}, [2])
        engine.rest()
        engine.append("s", 0, [event(9), ("mark", 9)])
        self.all_done(engine, ("read", 0, 0), ("read", 0, 0), ("take", 0))
        self.same(engine.trigger("aligned"), 1)
        self.all_done(engine, ("barrier", 0, 1), ("take", 1), ("barrier", 0, 0), ("take", 0))
        self.same(engine.checkpoint(1), {
            "number": 1, "how": "aligned", "sources": [(0, 0, 4, 9, []), (0, 1, 1, 1, [])], "tasks": [],
            "channels": [], "marks": [9, 1], "pending": [(3, ("a", 1), 1), (9, ("a", 1), 1)], "told": [], "mark": 1})

    def test_source_tasks_owe_one_by_one(self):
        logs = {"s": [[("mark", 1)], [("mark", 2)], [("mark", 3)]]}
        engine = engine_of(((SOURCE, ()),), logs, [2])
        engine.trigger("aligned")
        self.same(engine.choices(), [("barrier", 0, 0), ("barrier", 0, 1)])
        engine.do(("barrier", 0, 1))
        self.same(engine.choices(), [("barrier", 0, 0), ("read", 0, 1), ("take", 1)])
        self.same(engine.do(("read", 0, 1)), (2, True))
        # The channel from which the barrier was taken is blocked at the sink, the parcel behind it waits.
        engine.do(("take", 1))
        self.same(engine.choices(), [("barrier", 0, 0)])
        self.all_done(engine, ("barrier", 0, 0), ("take", 0))
        self.same(engine.choices(), [("commit",), ("read", 0, 0), ("read", 0, 2), ("take", 1)])
        self.same(engine.checkpoint(1)["sources"], [(0, 0, 0, -1, []), (0, 1, 0, -1, []), (0, 2, 0, -1, [])])

    def test_held_events_are_told_partition_by_partition(self):
        logs = {"s": [[event(3), event(3), event(2), ("mark", 1)], [event(5, "z"), event(5)], [("mark", 7), event(9)]]}
        engine = engine_of(((SOURCE, ()),), logs, [1])
        engine.rest()
        engine.trigger("swift")
        engine.rest()
        self.same(engine.checkpoint(1)["sources"], [
            (0, 0, 4, 1, [(2, ("a", 1), 1), (3, ("a", 1), 2)]),
            (0, 1, 2, -1, [(5, ("a", 1), 1), (5, ("z", 1), 1)]), (0, 2, 2, 7, [(9, ("a", 1), 1)])])


class Swift(EngineCase):
    def begun(self):
        """An engine whose union has got a barrier from side 0, with parcels on side 1 ahead of the barrier."""
        engine = engine_of(BOTH, {"s": [[event(1), ("mark", 2), event(3), ("mark", 4)]],
                                  "t": [[event(2), ("mark", 2), event(3), ("mark", 3)]]}, room=2)
        self.all_done(engine, ("read", 0, 0), ("read", 0, 0), ("take", 0), *[("read", 1, 0)] * 4)
        self.same(engine.trigger("swift"), 1)
        self.all_done(engine, ("barrier", 0, 0), ("read", 0, 0), ("read", 0, 0))
        self.same(engine.do(("take", 0)), (-1, False))
        return engine

    def test_nothing_is_blocked(self):
        engine = self.begun()
        self.same(engine.queues, [1, 2, 0])
        self.same(engine.choices(), [("barrier", 1, 0), ("take", 0), ("take", 1), ("take", 2)])

    def test_parcels_of_the_other_channels_are_noted(self):
        engine = self.begun()
        # One parcel that stands ahead of the barrier is taken before the barrier is given, one behind.
        self.same(engine.do(("take", 1)), (2, True))
        # A parcel of the channel from which the barrier was taken is not noted.
        self.same(engine.do(("take", 0)), (2, False))
        self.all_done(engine, ("barrier", 1, 0), ("take", 1))
        self.same(engine.status(1), "under way")
        self.same(self.all_done(engine, ("take", 1)), (3, False))
        self.same(engine.status(1), "under way")
        self.same(self.all_done(engine, ("take", 2)), (-1, False))
        self.same(engine.status(1), "complete")
        one, other = (2, [(2, ("a", 1), 1)]), (3, [(3, ("a", 1), 1)])
        self.same(engine.checkpoint(1), {
            "number": 1, "how": "swift", "sources": [(0, 0, 2, 2, []), (1, 0, 4, 3, [])],
            "tasks": [(2, 0, ([2, -1], (-1, [[(1, ("a", 1), 1)], []], [])))],
            "channels": [(1, [one, other])], "marks": [-1], "pending": [], "told": [], "mark": -1})
        self.same((engine.queues, engine.output()), ([0, 0, 2], []))

    def test_noted_parcels_are_in_their_channel_again(self):
        engine = engine_of(BOTH, {"s": [[("mark", 9)]], "t": [[event(2), ("mark", 2), event(3), ("mark", 3)]]})
        self.all_done(engine, ("read", 1, 0), ("read", 1, 0))
        self.same(engine.trigger("swift"), 1)
        self.all_done(engine, ("barrier", 0, 0), ("take", 0), ("take", 1), ("barrier", 1, 0), ("read", 0, 0),
                      ("take", 0), ("take", 1), ("take", 2))
        self.same(engine.checkpoint(1)["channels"], [(1, [(2, [(2, ("a", 1), 1)])])])
        self.same((engine.crash(), engine.restore()), (None, 1))
        self.same((engine.queues, engine.progress), ([0, 1, 0], [(0, 0, 0), (1, 0, 2)]))
        self.same(engine.choices(), [("read", 0, 0), ("take", 1)])

    def test_a_restored_channel_may_hold_more_than_the_room(self):
        plan = (SOURCE, ()), (SECOND, ()), (ALL, (1,)), (UNION, (0, 2))
        engine = engine_of(plan, {"s": [[]], "t": [[event(1), ("mark", 1), ("mark", 2), ("mark", 3)]]})
        self.all_done(engine, ("read", 1, 0), ("read", 1, 0), ("take", 0), ("read", 1, 0))
        engine.trigger("swift")
        self.all_done(engine, ("barrier", 0, 0), ("take", 1), ("take", 2), ("take", 0), ("take", 2))
        self.all_done(engine, ("barrier", 1, 0), ("take", 0), ("take", 2), ("take", 3))
        self.same(engine.checkpoint(1)["channels"], [(2, [(1, [(1, ("a", 1), 1)]), (2, [])])])
        self.same((engine.crash(), engine.restore()), (None, 1))
        self.same((engine.queues, engine.choices()), ([0, 0, 2, 0], [("read", 1, 0), ("take", 2)]))
        # The filter can send again when there are fewer parcels than the room, which is 1.
        self.all_done(engine, ("read", 1, 0), ("take", 2))
        self.same((engine.queues, engine.choices()), ([1, 0, 1, 0], [("take", 2)]))
        engine.do(("take", 2))
        self.same((engine.queues, engine.choices()), ([1, 0, 0, 0], [("take", 0)]))

    def test_parcels_to_the_sink_are_noted(self):
        engine = engine_of(((SOURCE, ()),), {"s": [[event(3), ("mark", 4)], [event(1), ("mark", 1)]]}, [2])
        self.all_done(engine, ("read", 0, 0), ("read", 0, 0), ("read", 0, 1), ("read", 0, 1))
        engine.trigger("swift")
        self.all_done(engine, ("barrier", 0, 0), ("take", 0), ("take", 0))
        self.same(engine.do(("take", 1)), (1, False))
        self.same((engine.output(), engine.status(1)), ([(1, ("a", 1), 1)], "under way"))
        self.all_done(engine, ("barrier", 0, 1), ("take", 1))
        self.same(engine.checkpoint(1), {
            "number": 1, "how": "swift", "sources": [(0, 0, 2, 4, []), (0, 1, 2, 1, [])], "tasks": [],
            "channels": [(1, [(1, [(1, ("a", 1), 1)])])], "marks": [4, -1], "pending": [(3, ("a", 1), 1)],
            "told": [], "mark": -1})
        self.same((engine.do(("commit",)), engine.committed(), engine.output()),
                  ((-1, False), [], [(1, ("a", 1), 1)]))


    def test_what_the_sink_tells_behind_its_cut_is_not_noted(self):
        engine = engine_of(((SOURCE, ()), (ALL, (0,))), {"s": [[event(3), ("mark", 4)], [("mark", 1), ("mark", 9)]]},
                           [2, 2], room=2)
        self.all_done(engine, ("read", 0, 0), ("read", 0, 0), ("take", 0), ("take", 2), ("read", 0, 1),
                      ("take", 1), ("take", 3), ("read", 0, 1))
        self.same(engine.output(), [])
        engine.trigger("swift")
        self.all_done(engine, ("barrier", 0, 0), ("take", 0), ("take", 2), ("take", 1), ("take", 3))
        # The sink has noted its state, and tells the event before the other filter notes its own.
        self.same((engine.output(), engine.status(1)), ([(3, ("a", 1), 1)], "under way"))
        self.all_done(engine, ("barrier", 0, 1), ("take", 1), ("take", 3))
        told = engine.checkpoint(1)
        self.same((told["marks"], told["mark"], told["pending"], told["told"], told["channels"]),
                  ([4, 1], 1, [(3, ("a", 1), 1)], [], [(3, [(9, [])])]))
        self.same(told["tasks"], [(1, 0, ([4], (4, [[]], []))), (1, 1, ([9], (9, [[]], [])))])

    def test_parcels_that_were_restored_stay_in_the_checkpoint(self):
        engine = engine_of(BOTH, {"s": [[("mark", 9)]], "t": [[event(2), ("mark", 2)]]})
        self.all_done(engine, ("read", 1, 0), ("read", 1, 0))
        engine.trigger("swift")
        self.all_done(engine, ("barrier", 0, 0), ("take", 0), ("take", 1), ("barrier", 1, 0), ("take", 1), ("take", 2))
        told = engine.checkpoint(1)
        self.same(told["channels"], [(1, [(2, [(2, ("a", 1), 1)])])])
        for _ in range(2):
            engine.crash()
            engine.restore()
            self.same(engine.queues, [0, 1, 0])
            engine.rest()
            self.same((engine.output(), engine.checkpoint(1)), ([(2, ("a", 1), 1)], told))

    def test_held_events_are_held_again(self):
        engine = engine_of(((SOURCE, ()),), {"s": [[event(3), event(3), event(5), ("mark", 3)], []]})
        self.all_done(engine, *[("read", 0, 0)] * 4)
        engine.trigger("swift")
        self.all_done(engine, ("barrier", 0, 0), ("take", 0), ("commit",))
        told = engine.checkpoint(1)
        engine.append("s", 1, [("mark", 4), ("mark", 5)])
        engine.append("s", 0, [event(6), ("mark", 9)])
        for _ in range(2):
            engine.crash()
            engine.restore()
            engine.rest()
            self.same((engine.output(), engine.checkpoint(1)), ([(3, ("a", 1), 2), (5, ("a", 1), 1)], told))


class Triggers(EngineCase):
    def test_one_at_a_time(self):
        engine = engine_of(((SOURCE, ()),), {"s": [[("mark", 1)]]})
        self.same(engine.trigger("aligned"), 1)
        self.refused_trigger(engine)
        engine.do(("barrier", 0, 0))
        self.refused_trigger(engine)
        engine.do(("take", 0))
        self.same(engine.status(1), "complete")
        self.refused_trigger(engine)
        engine.do(("commit",))
        self.same(engine.trigger("swift"), 2)
        self.same((engine.status(1), engine.status(2), engine.checkpoints), ("committed", "under way", [1]))

    def refused_trigger(self, engine):
        """It cannot be triggered, which changes nothing."""
        before = engine.choices()
        for how in ("aligned", "swift"):
            with self.assertRaises(UnderWay) as caught:
                engine.trigger(how)
            self.assertIs(type(caught.exception), UnderWay)
        self.same(engine.choices(), before)

    def test_the_numbers_of_lost_ones_are_not_given_again(self):
        engine = engine_of(((SOURCE, ()),), {"s": [[("mark", 1)]]})
        engine.trigger("aligned")
        self.same((engine.crash(), engine.status(1), engine.restore()), (1, "lost", 0))
        self.same((engine.trigger("swift"), engine.rest(), engine.status(1), engine.status(2)),
                  (2, 5, "lost", "committed"))

    def test_the_last_eight_are_kept(self):
        engine = engine_of(((SOURCE, ()),), {"s": [[]]})
        for number in range(1, 12):
            engine.append("s", 0, [("mark", number)])
            engine.trigger("aligned" if number % 2 else "swift")
            engine.rest()
            self.same(engine.checkpoints, list(range(max(1, number - 7), number + 1)))
        self.same([engine.status(number) for number in range(1, 12)], ["committed"] * 11)
        self.same([engine.checkpoint(number)["sources"] for number in (4, 11)],
                  [[(0, 0, 3, 3, [])], [(0, 0, 10, 10, [])]])
        for number in (3, 0, 12, -1):
            self.refused_number(engine.checkpoint, number)

    def test_complete_ones_alone_are_kept(self):
        engine = engine_of(((SOURCE, ()),), {"s": [[]]})
        for _ in range(10):
            engine.trigger("swift")
            engine.crash()
            engine.restore()
        engine.trigger("swift")
        self.same(engine.checkpoints, [])
        engine.rest()
        self.same((engine.checkpoints, engine.status(10), engine.status(11)), ([11], "lost", "committed"))
        self.refused_number(engine.checkpoint, 10)

    def test_numbers_that_there_are_not(self):
        engine = engine_of(((SOURCE, ()),), {"s": [[]]})
        self.refused_number(engine.checkpoint, 1)
        self.refused_number(engine.status, 1)
        self.refused_number(engine.status, 0)
        engine.trigger("swift")
        self.refused_number(engine.checkpoint, 1)
        self.same(engine.status(1), "under way")
        self.refused_number(engine.status, 2)
        engine.crash()
        self.refused_number(engine.status, 2)
        self.refused_number(engine.checkpoint, 1)

    def refused_number(self, function, number):
        """There is no such checkpoint."""
        with self.assertRaises(UnknownCheckpoint) as caught:
            function(number)
        self.assertIs(type(caught.exception), UnknownCheckpoint)


class Down(EngineCase):
    def fallen(self):
        """An engine that has read and committed something, and is down."""
        engine = engine_of(((SOURCE, ()), (COUNT, (0,))), {"s": [[event(1), ("mark", 1), event(1), ("mark", 3)]]})
        self.all_done(engine, ("read", 0, 0), ("read", 0, 0), ("take", 0), ("take", 1))
        engine.trigger("aligned")
        self.all_done(engine, ("barrier", 0, 0), ("take", 0), ("take", 1), ("commit",), ("read", 0, 0), ("read", 0, 0),
                      ("take", 0))
        self.same(engine.late, [(0, 0, 2)])
        self.same(engine.crash(), None)
        return engine

    def test_what_is_told(self):
        engine = self.fallen()
        self.same((engine.is_down, engine.choices(), engine.queues, engine.progress, engine.late),
                  (True, [], [0, 0], [(0, 0, 0)], []))
        self.same((engine.task_marks(), engine.states()), ([[-1], [-1], [-1]], [(1, 0, ([-1], (-1, [[]], [[]])))]))
        self.same((engine.mark, engine.committed(), engine.output()), (1, [(1, ("a", 1), 1)], [(1, ("a", 1), 1)]))
        self.same((engine.checkpoints, engine.status(1), engine.checkpoint(1)["mark"]), ([1], "committed", 1))

    def test_what_is_refused(self):
        engine = self.fallen()
        for refused in (lambda: engine.do(("read", 0, 0)), lambda: engine.do(()), lambda: engine.run([]),
                        lambda: engine.run([1]), engine.rest, lambda: engine.trigger("swift"), engine.crash):
            with self.assertRaises(EngineDown) as caught:
                refused()
            self.assertIs(type(caught.exception), EngineDown)
        self.same((engine.is_down, engine.status(1), engine.restore(), engine.trigger("swift")),
                  (True, "committed", 1, 2))

    def test_a_restore_of_an_engine_that_is_up(self):
        engine = engine_of(((SOURCE, ()),), {"s": [[("mark", 1)]]})
        engine.do(("read", 0, 0))
        with self.assertRaises(EngineUp) as caught:
            engine.restore()
        self.assertIs(type(caught.exception), EngineUp)
        self.same((engine.queues, engine.progress), ([1], [(0, 0, 1)]))

    def test_entries_can_be_appended(self):
        engine = self.fallen()
        self.same(engine.append("s", 0, [event(3), event(5, "b"), END]), 7)
        self.refused(UnknownSource, "t", engine.append, "t", 0, [])
        self.refused(InvalidLogs, "no such partition", engine.append, "s", 1, [])
        self.same(engine.progress, [(0, 0, 0)])
        self.same(engine.restore(), 1)
        self.same((engine.progress, engine.late), ([(0, 0, 2)], []))
        engine.rest()
        self.same((engine.output(), engine.late),
                  ([(1, ("a", 1), 1), (5, ("b", 1), 1)], [(0, 0, 2), (0, 0, 4)]))

    def test_a_restore_without_a_checkpoint(self):
        engine = engine_of(((SOURCE, ()),), {"s": [[event(1), ("mark", 1)]]})
        self.all_done(engine, ("read", 0, 0), ("read", 0, 0), ("take", 0))
        self.same(engine.output(), [(1, ("a", 1), 1)])
        self.same((engine.crash(), engine.output(), engine.restore()), (None, [], 0))
        self.same((engine.is_down, engine.progress, engine.mark, engine.output(), engine.choices()),
                  (False, [(0, 0, 0)], -1, [], [("read", 0, 0)]))
        self.same((engine.rest(), engine.output()), (3, [(1, ("a", 1), 1)]))


class Restores(EngineCase):
    def test_a_complete_checkpoint_is_committed_by_a_restore(self):
        engine = engine_of(CHAIN, {"s": [[event(1), ("mark", 1), event(2), ("mark", 2)]]}, room=2)
        engine.trigger("aligned")
        self.all_done(engine, ("barrier", 0, 0), *[("read", 0, 0)] * 2, ("take", 0), ("take", 1))
        engine.do(("commit",))
        self.all_done(engine, *[("take", 0), ("take", 1)])
        self.same(engine.output(), [(1, ("a", 1), 1)])
        engine.trigger("aligned")
        self.all_done(engine, ("barrier", 0, 0), ("take", 0), ("take", 1))
        self.same((engine.status(2), engine.committed(), engine.mark), ("complete", [], -1))
        self.same((engine.crash(), engine.status(2), engine.committed(), engine.output()), (None, "complete", [], []))
        self.same((engine.restore(), engine.status(2), engine.mark), (2, "committed", 1))
        self.same((engine.committed(), engine.output()), ([(1, ("a", 1), 1)], [(1, ("a", 1), 1)]))
        self.same((engine.progress, engine.task_marks()), ([(0, 0, 2)], [[1], [1], [1]]))
        self.same(engine.choices(), [("read", 0, 0)])

    def test_a_committed_one_is_not_committed_again(self):
        engine = engine_of(CHAIN, {"s": [[event(1), ("mark", 1)]]})
        engine.rest()
        engine.trigger("swift")
        engine.rest()
        for _ in range(3):
            engine.crash()
            self.same((engine.restore(), engine.committed(), engine.output()), (1, [(1, ("a", 1), 1)]) + (
                [(1, ("a", 1), 1)],))

    def test_what_is_told_behind_the_cut_stays_out_of_the_commit(self):
        engine = engine_of(((SOURCE, ()),), {"s": [[event(1), ("mark", 1), event(2), ("mark", 2)]]})
        self.all_done(engine, ("read", 0, 0), ("read", 0, 0), ("take", 0))
        engine.trigger("aligned")
        self.all_done(engine, ("barrier", 0, 0), ("take", 0), ("read", 0, 0), ("read", 0, 0), ("take", 0))
        one, two = (1, ("a", 1), 1), (2, ("a", 1), 1)
        self.same((engine.output(), engine.committed()), ([one, two], []))
        self.same((engine.do(("commit",)), engine.committed(), engine.output()), ((1, False), [one], [one, two]))
        self.same(engine.trigger("swift"), 2)
        self.all_done(engine, ("barrier", 0, 0), ("take", 0))
        self.same(engine.checkpoint(2)["told"], [two])
        self.same((engine.crash(), engine.output(), engine.restore(), engine.output()), (None, [one], 2, [one, two]))

    def test_a_restore_goes_back_to_the_last_complete_one(self):
        engine = engine_of(((SOURCE, ()),), {"s": [[event(1), ("mark", 1), event(2), ("mark", 2)]]})
        for number in (1, 2):
            self.same(engine.trigger("aligned"), number)
            self.all_done(engine, ("barrier", 0, 0), ("take", 0), ("commit",))
            self.all_done(engine, ("read", 0, 0), ("read", 0, 0), ("take", 0))
        engine.trigger("aligned")
        engine.do(("barrier", 0, 0))
        self.same((engine.crash(), engine.restore()), (3, 2))
        self.same((engine.progress, engine.mark, engine.output()), ([(0, 0, 2)], 1, [(1, ("a", 1), 1)]))
        self.same((engine.status(3), engine.choices()), ("lost", [("read", 0, 0)]))


class Sharing(EngineCase):
    def test_arguments_are_neither_changed_nor_kept(self):
        graph = lay_out(((SOURCE, ()), (COUNT, (0,))), [1, 2])
        logs, entries = {"s": [[event(1), ("mark", 1)]]}, [event(5), END]
        before = repr((graph, logs, entries))
        engine = Engine(graph, logs, 2)
        engine.append("s", 0, entries)
        engine.rest()
        self.same(repr((graph, logs, entries)), before)
        spoil([graph[0], graph[1], logs, entries])
        engine.crash()
        engine.restore()
        engine.rest()
        self.same(engine.output(), [(1, ("a", 1), 1), (5, ("a", 1), -1), (5, ("a", 2), 1)])

    def test_what_is_told_is_new(self):
        for seed in range(40):
            numbers = generator_of_numbers(seed)
            graph = random_graph(numbers)
            engine = Engine(graph, random_logs(numbers, partitions=partitions_wanted(graph)), 2)
            engine.run([numbers.randrange(1000) for _ in range(30)])
            engine.trigger(numbers.choice(("aligned", "swift")))
            while engine.status(1) == "under way":
                engine.run([numbers.randrange(1000)])
            for _ in range(3):
                before = repr(told_of(engine))
                spoil(told_of(engine))
                self.assertEqual(repr(told_of(engine)), before)
                spoil(engine.checkpoint(1))
                engine.crash()
                engine.restore()

    def test_a_checkpoint_that_was_handed_out_stays_as_it_is(self):
        engine = engine_of(((SOURCE, ()), (COUNT, (0,))), {"s": [[event(1), ("mark", 1), event(3)], [("mark", 2)]]})
        engine.rest()
        engine.trigger("aligned")
        engine.rest()
        told = engine.checkpoint(1)
        before = repr(told)
        engine.append("s", 0, [END])
        engine.append("s", 1, [END])
        engine.rest()
        self.same(repr(told), before)
        self.same(repr(engine.checkpoint(1)), before)


def told_of(engine):
    """All lists and dicts that an engine tells."""
    return [engine.choices(), engine.task_marks(), engine.queues, engine.progress, engine.late, engine.output(),
            engine.committed(), engine.states(), engine.checkpoints, [engine.checkpoint(number)
                                                                      for number in engine.checkpoints]]


if __name__ == "__main__":
    unittest.main()
