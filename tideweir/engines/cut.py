"""Checkpoints that are under way: the barriers that are still to come, and what was noted."""


class Cut:
    """What barriers of one checkpoint have come to, in a network."""

    def __init__(self, number, how, network):
        wiring = network.wiring
        self.number = number
        self.how = how
        self.network = network
        self.owing = list(wiring.source_tasks)
        # The channels of each task from which the barrier has not been taken yet.
        self.awaited = {task: list(wiring.leading_to[task]) for task in wiring.other_tasks}
        self.noted_sources = []
        self.noted_states = {}
        self.noted_parcels = {}
        self.told = []

    def is_complete(self):
        """Return True if no barrier is still to come."""
        return not self.owing and not any(self.awaited.values())

    def blocked(self):
        """Return the list of the channels that are blocked."""
        if self.how == "swift":
            return []
        found = []
        for task, awaited in self.awaited.items():
            if awaited:
                found.extend([channel for channel in self.network.wiring.leading_to[task] if channel not in awaited])
        return found

    def give(self, task):
        """Let a source task give its barrier; return its mark."""
        self.owing.remove(task)
        for place in self.network.readings_of(task):
            self.noted_sources.append(place + self.network.readings[place].noted())
        self.network.send_barrier(task)
        return self.network.mark_of(task)

    def take_barrier(self, channel):
        """Take the barrier from a channel into its task; return the task's mark."""
        wiring = self.network.wiring
        task = wiring.channels[channel][2]
        is_first = len(self.awaited[task]) == len(wiring.leading_to[task])
        self.awaited[task].remove(channel)
        is_time = is_first if self.how == "swift" else not self.awaited[task]
        if is_time:
            self.note(task)
            self.network.send_barrier(task)
        return self.network.mark_of(task)

    def note(self, task):
        """Note the state of a task, and of the sink what it has told."""
        self.noted_states[task] = self.network.tasks[task].state()
        if task == self.network.wiring.sink:
            self.told = list(self.network.told)

    def see(self, channel, parcel):
        """Note a parcel that comes to a task behind its state, and ahead of the channel's barrier."""
        task = self.network.wiring.channels[channel][2]
        if self.how == "swift" and task in self.noted_states and channel in self.awaited[task]:
            self.noted_parcels.setdefault(channel, []).append(parcel)

    def checkpoint_noted(self):
        """Return the checkpoint that is complete."""
        sink = self.network.wiring.sink
        others = [task for task in sorted(self.noted_states) if task != sink]
        marks, (mark, pending, _) = self.noted_states[sink]
        return {
            "number": self.number,
            "how": self.how,
            "sources": sorted(self.noted_sources, key=lambda source: (source[0], source[1])),
            "tasks": [(task[0], task[1], self.noted_states[task]) for task in others],
            "channels": [(channel, self.noted_parcels[channel]) for channel in sorted(self.noted_parcels)],
            "marks": marks,
            "pending": pending[0],
            "told": self.told,
            "mark": mark,
        }
