"""What of a graph at work never changes: its tasks, its channels, and where rows are shipped."""

from tideweir.graphs.graphs import channels_of, is_sink, owner_of, plan_of, tasks_of
from tideweir.plans.plans import fields_of, is_source
from tideweir.tasks.task import Task
from tideweir.values.keys import key_of

LETS_ALL_THROUGH = ("filter", ("value", True))


class Wiring:
    """The tasks of a graph, pairs of a stage and a number, and the channels that lead to them and from them."""

    def __init__(self, graph):
        stages, edges = graph
        self.graph = (list(stages), list(edges))
        self.stages = list(stages)
        self.edges = list(edges)
        self.fields = [fields for fields, _ in fields_of(plan_of(graph))]
        self.channels = channels_of(graph)
        self.sink = (len(stages) - 1, 0)
        tasks = tasks_of(graph)
        self.source_tasks = [task for task in tasks if is_source(stages[task[0]][0])]
        self.other_tasks = [task for task in tasks if not is_source(stages[task[0]][0])]
        self.leading_to = {task: [] for task in tasks}
        self.leading_from = {task: [] for task in tasks}
        for channel, (_, origin, target) in enumerate(self.channels):
            self.leading_from[origin].append(channel)
            self.leading_to[target].append(channel)

    def new_task(self, task):
        """Return a task of the graph, the sink among them, as it is at the beginning."""
        return Task(self.operator_of(task), self.fields_of_sides(task), self.sides_of_channels(task))

    def resumed_task(self, task, state):
        """Return a task of the graph that goes on from its state."""
        fields = self.fields_of_sides(task)
        return Task.resumed(self.operator_of(task), fields, self.sides_of_channels(task), state)

    def operator_of(self, task):
        """Return the operator of a task; the sink has one that lets all through."""
        operator = self.stages[task[0]][0]
        return LETS_ALL_THROUGH if is_sink(operator) else operator

    def fields_of_sides(self, task):
        """Return the list of the fields of the sides of a task."""
        return [self.fields[edge[0]] for edge in self.edges if edge[1] == task[0]]

    def sides_of_channels(self, task):
        """Return for each channel that leads to a task its side."""
        return [self.edges[self.channels[channel][0]][2] for channel in self.leading_to[task]]

    def moves_by_owners(self, edge, moves):
        """Return a dict of the moves that each task gets by an edge, or None if all go into its one channel."""
        origin, target, _, ship = self.edges[edge]
        if not isinstance(ship, tuple):
            return None
        parts = {}
        for move in moves:
            owner = owner_of(self.graph, target, key_of(move[1], self.fields[origin], ship))
            parts.setdefault(owner, []).append(move)
        return parts
