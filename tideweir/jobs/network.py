"""Graphs at work: source tasks that read, tasks that send one another parcels, and the sink."""

from tideweir.flows.flows import flow_of, part_of
from tideweir.flows.logs import THE_END, late_indexes
from tideweir.jobs.reading import Reading
from tideweir.plans.plans import is_source

# What stands in a channel for a barrier, among the parcels.
BARRIER = "barrier"


class Network:
    """The tasks of a graph, and what waits in the channels between them."""

    def __init__(self, wiring, logs, room):
        self.wiring = wiring
        self.room = room
        self.waiting = [[] for _ in wiring.channels]
        self.tasks = {task: wiring.new_task(task) for task in wiring.other_tasks}
        self.readings = {}
        for number, stage in enumerate(wiring.stages):
            if is_source(stage[0]):
                for partition, entries in enumerate(logs[stage[0][1]]):
                    self.readings[(number, partition)] = Reading(entries)
        self.told = []

    def reader_of(self, stage, partition):
        """Return the source task by which a partition is read."""
        return (stage, partition % self.wiring.stages[stage][1])

    def readings_of(self, task):
        """Return the list of the places of the partitions that a source task reads."""
        return [place for place in self.readings if self.reader_of(place[0], place[1]) == task]

    def mark_of(self, task):
        """Return the mark of a task."""
        if task in self.tasks:
            return self.tasks[task].mark
        return min([self.readings[place].reached for place in self.readings_of(task)])

    def can_send(self, task):
        """Return True if there is room in each channel that leads from a task."""
        return all(parcels_in(self.waiting[channel]) < self.room for channel in self.wiring.leading_from[task])

    def reads(self, owing):
        """Return the choices of reading, but for the source tasks in a list."""
        choices = []
        for (stage, partition), reading in self.readings.items():
            task = self.reader_of(stage, partition)
            if task not in owing and not reading.is_at_the_end() and self.can_send(task):
                choices.append(("read", stage, partition))
        return choices

    def takes(self, blocked):
        """Return the choices of taking, but for the channels in a list."""
        choices = []
        for channel, items in enumerate(self.waiting):
            if items and channel not in blocked:
                if items[0] == BARRIER or self.can_send(self.wiring.channels[channel][2]):
                    choices.append(("take", channel))
        return choices

    def read(self, stage, partition):
        """Read the next entry of a partition; return the mark of its task, and whether this sent a parcel."""
        task = self.reader_of(stage, partition)
        before = self.mark_of(task)
        self.readings[(stage, partition)].read_next()
        mark = self.mark_of(task)
        if mark > before:
            moves = []
            for place in self.readings_of(task):
                moves.extend(self.readings[place].give_up_to(mark))
            self.send(task, (mark, flow_of(moves)))
        return (mark, mark > before)

    def take(self, channel):
        """Take the first item, a parcel or a barrier, out of a channel, and return it."""
        return self.waiting[channel].pop(0)

    def pass_on(self, channel, parcel):
        """Put a parcel from a channel into its task; return the task's mark, and whether this sent a parcel."""
        task = self.wiring.channels[channel][2]
        answer = self.tasks[task].put(self.wiring.leading_to[task].index(channel), parcel)
        if answer is not None and task == self.wiring.sink:
            # What the sink tells at a later mark has later times, so it stands behind.
            self.told.extend(answer[1])
        elif answer is not None:
            self.send(task, answer)
        return (self.mark_of(task), answer is not None and task != self.wiring.sink)

    def send(self, task, parcel):
        """Send a parcel into all channels that lead from a task, each with the moves that go there."""
        mark, moves = parcel
        parts = {}
        for channel in self.wiring.leading_from[task]:
            edge, _, (_, receiver) = self.wiring.channels[channel]
            if edge not in parts:
                parts[edge] = self.wiring.moves_by_owners(edge, moves)
            sent = moves if parts[edge] is None else parts[edge].get(receiver, [])
            self.waiting[channel].append((mark, sent))

    def send_barrier(self, task):
        """Put a barrier into all channels that lead from a task."""
        for channel in self.wiring.leading_from[task]:
            self.waiting[channel].append(BARRIER)

    def drop_told(self, mark):
        """Drop what the sink has told up to a mark."""
        self.told = part_of(self.told, mark, THE_END)

    def marks_by_stages(self):
        """Return for each stage the list of the marks of its tasks."""
        return [
            [self.mark_of((number, task)) for task in range(stage[1])]
            for number, stage in enumerate(self.wiring.stages)
        ]

    def states_noted(self):
        """Return the list of the states of all tasks but those of sources and the sink."""
        return [
            (task[0], task[1], self.tasks[task].state())
            for task in self.wiring.other_tasks if task != self.wiring.sink
        ]

    def go_on_from(self, checkpoint):
        """Go on from a checkpoint, with nothing told."""
        for stage, partition, many, reached, held in checkpoint["sources"]:
            self.readings[(stage, partition)].go_on_from(many, reached, held)
        for stage, number, state in checkpoint["tasks"]:
            self.tasks[(stage, number)] = self.wiring.resumed_task((stage, number), state)
        for channel, parcels in checkpoint["channels"]:
            self.waiting[channel] = list(parcels)
        state = (checkpoint["marks"], (checkpoint["mark"], [checkpoint["pending"]], []))
        self.tasks[self.wiring.sink] = self.wiring.resumed_task(self.wiring.sink, state)


def parcels_in(items):
    """Return how many of the items in a channel are parcels."""
    return len([item for item in items if item != BARRIER])


def progress_of(readings):
    """Return for each partition how many entries were read."""
    return [(stage, partition, reading.many) for (stage, partition), reading in readings.items()]


def late_events_of(readings):
    """Return the places of the late events that were read."""
    return [
        (stage, partition, index)
        for (stage, partition), reading in readings.items()
        for index in late_indexes(reading.entries[:reading.many])
    ]
