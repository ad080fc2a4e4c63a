"""Jobs: graphs at work on logs, step by step as the caller chooses."""

from tideweir.errors import InvalidChoice
from tideweir.jobs.network import Network, late_events_of, parcels_in, progress_of
from tideweir.jobs.starting import append_entries, logs_for
from tideweir.jobs.wiring import Wiring


class Job:
    """A graph at work on logs, with channels that have room for so many parcels."""

    def __init__(self, graph, logs, room):
        self._logs = logs_for(graph, logs)
        self._wiring = Wiring(graph)
        self._network = Network(self._wiring, self._logs, room)

    @property
    def mark(self):
        """The mark of the sink."""
        return self._network.tasks[self._wiring.sink].mark

    @property
    def queues(self):
        """The list of how many parcels the channels have."""
        return [parcels_in(items) for items in self._network.waiting]

    @property
    def progress(self):
        """The list of the partitions, with how many entries were read."""
        return progress_of(self._network.readings)

    @property
    def late(self):
        """The list of the places of the late events that were read."""
        return late_events_of(self._network.readings)

    def choices(self):
        """Return the list of what can be done next."""
        return self._network.reads([]) + self._network.takes([])

    def do(self, choice):
        """Do one of the choices; return the task's mark, and whether it sent a parcel. Raise InvalidChoice."""
        if choice not in self.choices():
            raise InvalidChoice("that is none of the choices")
        return self._perform(choice)

    def _perform(self, choice):
        if choice[0] == "read":
            return self._network.read(choice[1], choice[2])
        return self._network.pass_on(choice[1], self._network.take(choice[1]))

    def run(self, numbers):
        """Do a choice for each number, the one at its remainder; return how many were done."""
        done = 0
        for number in numbers:
            choices = self.choices()
            if choices:
                self._perform(choices[number % len(choices)])
                done += 1
        return done

    def rest(self):
        """Do the first choice again and again until there is none; return how many were done."""
        done = 0
        choices = self.choices()
        while choices:
            self._perform(choices[0])
            done += 1
            choices = self.choices()
        return done

    def append(self, source, partition, entries):
        """Append entries to a partition; return how many it has. Raise UnknownSource or InvalidLogs."""
        return append_entries(self._wiring.stages, self._logs, source, partition, entries)

    def task_marks(self):
        """Return for each stage the list of the marks of its tasks."""
        return self._network.marks_by_stages()

    def output(self):
        """Return what the sink has told."""
        return list(self._network.told)

    def states(self):
        """Return the list of the states of all tasks but those of sources and the sink."""
        return self._network.states_noted()
