"""Engines: jobs that can fail, and go on from their last complete checkpoint."""

from tideweir.engines.copies import copy_of
from tideweir.engines.cut import Cut
from tideweir.errors import EngineDown, EngineUp, InvalidChoice, UnderWay, UnknownCheckpoint
from tideweir.flows.flows import sum_flows
from tideweir.jobs.network import BARRIER, Network, late_events_of, parcels_in, progress_of
from tideweir.jobs.starting import append_entries, logs_for
from tideweir.jobs.wiring import Wiring

MOST_KEPT = 8


class Engine:
    """A job that can crash, be restored, and commits what it has told by checkpoints."""

    def __init__(self, graph, logs, room):
        self._logs = logs_for(graph, logs)
        self._wiring = Wiring(graph)
        self._room = room
        self._network = Network(self._wiring, self._logs, room)
        self._down = False
        self._cut = None
        self._last = 0
        self._words = {}
        self._kept = {}
        self._sure = []
        self._sure_mark = -1

    @classmethod
    def resumed(cls, graph, logs, room, checkpoint, committed):
        """Return an engine that goes on from a checkpoint, to whose flow committed that told there is added."""
        engine = cls(graph, logs, room)
        engine._last = checkpoint["number"]
        engine._words = {engine._last: "committed"}
        engine._kept = {engine._last: copy_of(checkpoint)}
        engine._sure = sum_flows([committed, checkpoint["told"]])
        engine._sure_mark = checkpoint["mark"]
        engine._network.go_on_from(engine._kept[engine._last])
        return engine

    @property
    def is_down(self):
        """Whether the engine is down."""
        return self._down

    @property
    def mark(self):
        """The committed mark."""
        return self._sure_mark

    @property
    def queues(self):
        """The list of how many parcels the channels have."""
        return [parcels_in(items) for items in self._network.waiting]

    @property
    def progress(self):
        """The list of the partitions, with how many entries were read."""
        return progress_of(self._network.readings)

    @property
    def late(self):
        """The list of the places of the late events that were read."""
        return late_events_of(self._network.readings)

    @property
    def checkpoints(self):
        """The list of the numbers of the complete checkpoints that are kept."""
        return sorted(self._kept)

    def choices(self):
        """Return the list of what can be done next."""
        if self._down:
            return []
        if self._cut is None:
            first = [("commit",)] if self._is_to_commit() else []
            return first + self._network.reads([]) + self._network.takes([])
        owing = self._cut.owing
        barriers = [("barrier", stage, number) for stage, number in owing]
        return barriers + self._network.reads(owing) + self._network.takes(self._cut.blocked())

    def _is_to_commit(self):
        return self._words.get(self._last, "") == "complete"

    def do(self, choice):
        """Do one of the choices; return the task's mark, and whether it sent a parcel.

        Raise EngineDown, or InvalidChoice.
        """
        if self._down:
            raise EngineDown("the engine is down")
        if choice not in self.choices():
            raise InvalidChoice("that is none of the choices")
        return self._perform(choice)

    def _perform(self, choice):
        if choice[0] == "commit":
            self._commit()
            return (self._sure_mark, False)
        if choice[0] == "barrier":
            return (self._cut.give((choice[1], choice[2])), False)
        if choice[0] == "read":
            return self._network.read(choice[1], choice[2])
        return self._take(choice[1])

    def _take(self, channel):
        item = self._network.take(channel)
        if item == BARRIER:
            mark = self._cut.take_barrier(channel)
            if self._cut.is_complete():
                self._keep(self._cut.checkpoint_noted())
            return (mark, False)
        if self._cut is not None:
            self._cut.see(channel, item)
        return self._network.pass_on(channel, item)

    def _keep(self, checkpoint):
        self._cut = None
        self._words[self._last] = "complete"
        self._kept[self._last] = checkpoint
        numbers = sorted(self._kept)
        for number in numbers[:-MOST_KEPT]:
            del self._kept[number]

    def _commit(self):
        checkpoint = self._kept[self._last]
        self._sure = sum_flows([self._sure, checkpoint["told"]])
        self._sure_mark = checkpoint["mark"]
        self._words[self._last] = "committed"
        self._network.drop_told(self._sure_mark)

    def run(self, numbers):
        """Do a choice for each number, the one at its remainder; return how many were done. Raise EngineDown."""
        if self._down:
            raise EngineDown("the engine is down")
        done = 0
        for number in numbers:
            choices = self.choices()
            if choices:
                self._perform(choices[number % len(choices)])
                done += 1
        return done

    def rest(self):
        """Do the first choice again and again until there is none; return how many were done. Raise EngineDown."""
        if self._down:
            raise EngineDown("the engine is down")
        done = 0
        choices = self.choices()
        while choices:
            self._perform(choices[0])
            done += 1
            choices = self.choices()
        return done

    def append(self, source, partition, entries):
        """Append entries to a partition; return how many it has. Raise UnknownSource or InvalidLogs."""
        return append_entries(self._wiring.stages, self._logs, source, partition, entries)

    def trigger(self, how):
        """Trigger a checkpoint, "aligned" or "swift"; return its number. Raise EngineDown or UnderWay."""
        if self._down:
            raise EngineDown("the engine is down")
        if self._cut is not None or self._is_to_commit():
            raise UnderWay("a checkpoint is not committed yet")
        self._last += 1
        self._words[self._last] = "under way"
        self._cut = Cut(self._last, how, self._network)
        return self._last

    def crash(self):
        """Crash; return the number of the checkpoint that is lost, or None. Raise EngineDown."""
        if self._down:
            raise EngineDown("the engine is down")
        lost = None if self._cut is None else self._last
        if lost is not None:
            self._words[lost] = "lost"
        self._cut = None
        self._network = Network(self._wiring, self._logs, self._room)
        self._down = True
        return lost

    def restore(self):
        """Go on from the last complete checkpoint; return its number, 0 if there is none. Raise EngineUp."""
        if not self._down:
            raise EngineUp("the engine is up")
        self._down = False
        if not self._kept:
            return 0
        if self._is_to_commit():
            self._commit()
        number = max(list(self._kept))
        self._network.go_on_from(self._kept[number])
        return number

    def committed(self):
        """Return what is committed."""
        return list(self._sure)

    def output(self):
        """Return what is committed, and what the sink has told that is not."""
        return sum_flows([self._sure, self._network.told])

    def checkpoint(self, number):
        """Return a complete checkpoint that is kept; raise UnknownCheckpoint."""
        if number not in self._kept:
            raise UnknownCheckpoint("that checkpoint is not kept")
        return copy_of(self._kept[number])

    def status(self, number):
        """Return how far a checkpoint has come; raise UnknownCheckpoint."""
        if number not in self._words:
            raise UnknownCheckpoint("there is no such checkpoint")
        return self._words[number]

    def task_marks(self):
        """Return for each stage the list of the marks of its tasks."""
        return self._network.marks_by_stages()

    def states(self):
        """Return the list of the states of all tasks but those of sources and the sink."""
        return self._network.states_noted()
