"""What the document says of jobs and engines, written down once more.

A task is kept here as all that was ever put into it, and all that it tells is reckoned by definition from that. A
checkpoint keeps such whole histories, too.
"""

from copy import deepcopy

from tests.plain_graphs import plain_channels, plain_plan, plain_receiver
from tests.plain_operators import plain_define, plain_sum
from tests.plain_states import plain_state
from tideweir.plans.plans import fields_of

BARRIER = "barrier"


def plain_mark(entries):
    """The mark behind entries."""
    return max([-1] + [entry[1] for entry in entries if entry[0] == "mark"])


def plain_on_time(entries):
    """The events on time, as moves, and the indexes of the late ones."""
    found, late = [], []
    for index, entry in enumerate(entries):
        if entry[0] == "event":
            if entry[1] > plain_mark(entries[:index]):
                found.append((entry[1], entry[2], 1))
            else:
                late.append(index)
    return found, late


class PlainEngine:
    def __init__(self, graph, logs, room):
        self.stages, self.edges = self.graph = graph
        self.room = room
        self.logs = deepcopy(logs)
        self.channels = plain_channels(graph)
        self.fields = [own for own, _ in fields_of(plain_plan(graph))]
        self.sink = (len(self.stages) - 1, 0)
        self.pairs = [(stage, task) for stage in range(len(self.stages)) for task in range(self.stages[stage][1])]
        self.source_pairs = [pair for pair in self.pairs if self.stages[pair[0]][0][0] == "source"]
        self.world = self.beginning()
        self.is_down = False
        self.number, self.status, self.taken, self.worlds = 0, {}, {}, {}
        self.committed, self.mark = [], -1
        self.cut = None

    def beginning(self):
        """How everything is when nothing was read."""
        to = {pair: [k for k, channel in enumerate(self.channels) if channel[2] == pair] for pair in self.pairs}
        return {"read": {(stage, k): 0 for stage, (operator, _, _) in enumerate(self.stages)
                         if operator[0] == "source" for k in range(len(self.logs[operator[1]]))},
                "marks": {pair: {k: -1 for k in to[pair]} for pair in self.pairs if pair not in self.source_pairs},
                "inputs": {pair: [[], []] for pair in self.pairs},
                "queues": [[] for _ in self.channels], "told": []}

    def entries(self, stage, partition):
        """The entries of a partition as far as they are read."""
        return self.logs[self.stages[stage][0][1]][partition][:self.world["read"][(stage, partition)]]

    def partitions(self, pair):
        """The partitions that a source task reads."""
        stage, task = pair
        return [k for k in range(len(self.logs[self.stages[stage][0][1]])) if k % self.stages[stage][1] == task]

    def mark_of(self, pair):
        """The mark of a task."""
        if pair in self.source_pairs:
            return min(plain_mark(self.entries(pair[0], k)) for k in self.partitions(pair))
        return min(self.world["marks"][pair].values())

    def sides(self, stage):
        """The fields of the sides of a stage."""
        return [self.fields[edge[0]] for edge in self.edges if edge[1] == stage]

    def can_send(self, pair):
        """Whether there is room behind a task."""
        return all(len([item for item in self.world["queues"][k] if item != BARRIER]) < self.room
                   for k, channel in enumerate(self.channels) if channel[1] == pair)

    def held(self, stage, partition):
        """The events that are held: whatever was read on time above the mark of the task."""
        mark = self.mark_of((stage, partition % self.stages[stage][1]))
        return plain_sum([move for move in plain_on_time(self.entries(stage, partition))[0] if move[0] > mark])

    def is_blocked(self, k):
        """Whether nothing is taken from a channel."""
        if self.cut is None or self.cut["how"] == "swift":
            return False
        pair = self.channels[k][2]
        return k in self.cut["barriers"] and pair not in self.cut["states"]

    def choices(self):
        """What can be done next."""
        if self.is_down:
            return []
        found = [("commit",)] if self.status.get(self.number) == "complete" else []
        owing = [] if self.cut is None else [pair for pair in self.source_pairs if pair not in self.cut["given"]]
        found += [("barrier",) + pair for pair in owing]
        for (stage, k), read in self.world["read"].items():
            pair = (stage, k % self.stages[stage][1])
            if read < len(self.logs[self.stages[stage][0][1]][k]) and self.can_send(pair) and pair not in owing:
                found.append(("read", stage, k))
        for k, (_, _, pair) in enumerate(self.channels):
            queue = self.world["queues"][k]
            if queue and not self.is_blocked(k) and (queue[0] == BARRIER or self.can_send(pair)):
                found.append(("take", k))
        return found

    def send(self, pair, mark, moves):
        """Send a parcel."""
        for k, (edge, origin, target) in enumerate(self.channels):
            if origin == pair:
                own = [move for move in moves if target[1] == plain_receiver(
                    self.graph, self.fields[pair[0]], self.edges[edge], pair[1], move[1])]
                self.world["queues"][k].append((mark, own))

    def do(self, choice):
        """Do a choice."""
        if choice[0] == "commit":
            self.commit()
            return (self.mark, False)
        if choice[0] == "barrier":
            return self.give(choice[1:])
        if choice[0] == "read":
            return self.read(choice[1], choice[2])
        item, pair = self.world["queues"][choice[1]].pop(0), self.channels[choice[1]][2]
        if item == BARRIER:
            return self.take_barrier(choice[1], pair)
        if self.cut is not None and self.cut["how"] == "swift":
            if pair in self.cut["states"] and choice[1] not in self.cut["barriers"]:
                self.cut["channels"][choice[1]].append(item)
        return self.put(choice[1], pair, item)

    def read(self, stage, partition):
        """Read an entry."""
        pair = (stage, partition % self.stages[stage][1])
        before = self.mark_of(pair)
        held = [move for k in self.partitions(pair) for move in self.held(stage, k)]
        self.world["read"][(stage, partition)] += 1
        mark = self.mark_of(pair)
        if mark > before:
            self.send(pair, mark, plain_sum([move for move in held if move[0] <= mark]))
        return (mark, mark > before)

    def put(self, k, pair, parcel):
        """Put a parcel into a task."""
        before = self.mark_of(pair)
        self.world["marks"][pair][k] = parcel[0]
        self.world["inputs"][pair][self.edges[self.channels[k][0]][2]] += parcel[1]
        mark = self.mark_of(pair)
        if mark == before:
            return (mark, False)
        sides = self.sides(pair[0])
        flows = [plain_sum(self.world["inputs"][pair][side]) for side in range(len(sides))]
        told = flows[0] if pair == self.sink else plain_define(self.stages[pair[0]][0], sides, flows)
        told = [move for move in told if before < move[0] <= mark]
        if pair == self.sink:
            self.world["told"] += told
            return (mark, False)
        self.send(pair, mark, told)
        return (mark, True)

    def state_of(self, pair):
        """The state of a task."""
        sides = self.sides(pair[0])
        flows = [plain_sum(self.world["inputs"][pair][side]) for side in range(len(sides))]
        operator = ("filter", ("value", True)) if pair == self.sink else self.stages[pair[0]][0]
        return (list(self.world["marks"][pair].values()), plain_state(operator, sides, flows, self.mark_of(pair)))

    def states(self):
        """The states of the tasks."""
        return [pair + (self.state_of(pair),) for pair in self.pairs
                if pair not in self.source_pairs and pair != self.sink]

    def trigger(self, how):
        """Trigger a checkpoint."""
        self.number += 1
        self.status[self.number] = "under way"
        self.cut = {"how": how, "given": {}, "barriers": [], "states": {}, "histories": {}, "sink": None,
                    "channels": {k: [] for k in range(len(self.channels))}}
        return self.number

    def barrier_from(self, pair):
        """Put the barrier into all channels that lead from a task."""
        for k, channel in enumerate(self.channels):
            if channel[1] == pair:
                self.world["queues"][k].append(BARRIER)

    def give(self, pair):
        """Let a source task give its barrier."""
        self.cut["given"][pair] = [
            (pair[0], k, self.world["read"][(pair[0], k)], plain_mark(self.entries(pair[0], k)), self.held(pair[0], k))
            for k in self.partitions(pair)]
        self.barrier_from(pair)
        return (self.mark_of(pair), False)

    def take_barrier(self, k, pair):
        """Take a barrier."""
        self.cut["barriers"].append(k)
        own = [number for number, channel in enumerate(self.channels) if channel[2] == pair]
        is_last = all(number in self.cut["barriers"] for number in own)
        if pair not in self.cut["states"] and (self.cut["how"] == "swift" or is_last):
            self.cut["states"][pair] = self.state_of(pair)
            self.cut["histories"][pair] = deepcopy((self.world["marks"][pair], self.world["inputs"][pair]))
            if pair == self.sink:
                self.cut["sink"] = list(self.world["told"])
            self.barrier_from(pair)
        if len(self.cut["given"]) == len(self.source_pairs) and len(self.cut["barriers"]) == len(self.channels):
            self.finish()
        return (self.mark_of(pair), False)

    def finish(self):
        """Tell the checkpoint that is complete."""
        cut, self.cut = self.cut, None
        marks, (mark, pending, _) = cut["states"][self.sink]
        self.taken[self.number] = {
            "number": self.number, "how": cut["how"],
            "sources": sorted([place for own in cut["given"].values() for place in own], key=lambda place: place[:2]),
            "tasks": [pair + (cut["states"][pair],) for pair in self.pairs if pair in cut["states"]
                      and pair != self.sink],
            "channels": [(k, own) for k, own in cut["channels"].items() if own],
            "marks": marks, "pending": pending[0], "told": cut["sink"], "mark": mark}
        world = self.beginning()
        for stage, k, read, _, _ in self.taken[self.number]["sources"]:
            world["read"][(stage, k)] = read
        for pair, (own, inputs) in cut["histories"].items():
            world["marks"][pair], world["inputs"][pair] = own, inputs
        for k, parcels in cut["channels"].items():
            world["queues"][k] = parcels
        self.worlds[self.number] = deepcopy(world)
        self.status[self.number] = "complete"

    def commit(self):
        """Commit the checkpoint that is complete."""
        told = self.taken[self.number]["told"]
        self.committed = plain_sum(self.committed + told)
        self.world["told"] = plain_sum(self.world["told"] + [(time, row, -weight) for time, row, weight in told])
        self.mark = self.taken[self.number]["mark"]
        self.status[self.number] = "committed"

    def crash(self):
        """Crash."""
        lost = self.number if self.cut is not None else None
        if lost is not None:
            self.status[lost] = "lost"
        self.cut, self.world, self.is_down = None, self.beginning(), True
        return lost

    def restore(self):
        """Go on from the last complete checkpoint."""
        self.is_down = False
        if not self.taken:
            return 0
        if self.status[self.number] == "complete":
            self.commit()
        last = max(self.taken)
        self.world = deepcopy(self.worlds[last])
        return last

    def late(self):
        """The late events that were read."""
        return [(stage, k, index) for stage, k in self.world["read"]
                for index in plain_on_time(self.entries(stage, k))[1]]

    def told(self):
        """What is told of an engine beside its states and checkpoints."""
        return {
            "choices": self.choices(), "is_down": self.is_down, "mark": self.mark, "committed": self.committed,
            "queues": [len([item for item in queue if item != BARRIER]) for queue in self.world["queues"]],
            "progress": [pair + (read,) for pair, read in self.world["read"].items()], "late": self.late(),
            "task_marks": [[self.mark_of((stage, task)) for task in range(self.stages[stage][1])]
                           for stage in range(len(self.stages))],
            "output": plain_sum(self.committed + self.world["told"]), "checkpoints": sorted(self.taken)[-8:],
            "status": dict(self.status)}


def what_is_told(engine, plain):
    """The same of an engine of the program."""
    return {
        "choices": engine.choices(), "is_down": engine.is_down, "mark": engine.mark, "committed": engine.committed(),
        "queues": engine.queues, "progress": engine.progress, "late": engine.late,
        "task_marks": engine.task_marks(), "output": engine.output(), "checkpoints": engine.checkpoints,
        "status": {number: engine.status(number) for number in plain.status}}
