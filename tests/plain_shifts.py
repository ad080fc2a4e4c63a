"""What the document says of rescaling, written down once more, as literally as can be."""

from tests.plain_graphs import PlainLies, plain_channels
from tests.plain_operators import plain_key, plain_sum, plain_table
from tests.plain_states import SIDES_OF_KEPT, TABLES
from tideweir.values.keys import group_of


class PlainRescaled:
    """A checkpoint for another graph."""

    def __init__(self, checkpoint, other):
        self.checkpoint = checkpoint
        self.stages, self.edges = other
        self.channels = plain_channels(other)
        self.lies = PlainLies(other)

    def mark_of(self, pair):
        """The mark of a task at the cut."""
        stage, task = pair
        own = [mark for number, partition, _, mark, _ in self.checkpoint["sources"]
               if number == stage and partition % self.stages[stage][1] == task]
        return min(own + self.marks_of(pair))

    def marks_of(self, pair):
        """The marks of the channels that lead to a task."""
        return [self.mark_of(origin) for _, origin, target in self.channels if target == pair]

    def goes_to(self, stage, side, row):
        """The task to which a row of a side goes."""
        edges = self.lies.edges_to(stage)
        lies = [self.lies.of_side(edge) for edge in edges]
        _, parallel, owners = self.stages[stage]
        if None in lies:
            marks = [self.mark_of((stage, task)) for task in range(parallel)]
            return marks.index(min(marks))
        if lies[side] == "all":
            return 0
        return owners[group_of(plain_key(row, self.lies.fields[edges[side][0]], lies[side]))]

    def state_of(self, pair):
        """The state of a task."""
        stage, task = pair
        old = [state for number, _, (_, state) in self.checkpoint["tasks"] if number == stage]
        operator = self.stages[stage][0]
        pending, kept = [], []
        for side in range(len(old[0][1])):
            pending.append(plain_sum([move for state in old for move in state[1][side]
                                      if self.goes_to(stage, side, move[1]) == task]))
        for place in range(len(old[0][2])):
            side = SIDES_OF_KEPT.get(operator[0], (0,))[place]
            if operator[0] in TABLES:
                kept.append(plain_table([(0, row, weight) for state in old for row, weight in state[2][place]
                                         if self.goes_to(stage, side, row) == task], 0))
            else:
                kept.append(plain_sum([move for state in old for move in state[2][place]
                                       if self.goes_to(stage, side, move[1]) == task]))
        return (self.marks_of(pair), (self.mark_of(pair), pending, kept))

    def told(self):
        """The checkpoint."""
        tasks = [(stage, task) for stage, (operator, parallel, _) in enumerate(self.stages[:-1])
                 for task in range(parallel) if operator[0] != "source"]
        found = dict(self.checkpoint)
        found["tasks"] = [pair + (self.state_of(pair),) for pair in tasks]
        found["marks"] = self.marks_of((len(self.stages) - 1, 0))
        return found


def plain_mark_at_sink(checkpoint, graph):
    """The mark of the sink of a graph at the cut."""
    return PlainRescaled(checkpoint, graph).mark_of((len(graph[0]) - 1, 0))
