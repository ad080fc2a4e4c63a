"""What the document says of graphs, written down once more, as literally as can be."""

from tests.plain_operators import plain_key
from tests.plain_states import plain_binding
from tideweir.plans.plans import fields_of
from tideweir.values.keys import group_of


def sides_wanted(operator):
    """How many edges a stage has to have."""
    return {"source": 0, "sink": 1, "union": 2, "near": 2, "asof": 2, "join": 2}.get(operator[0], 1)


def plain_plan(graph):
    """The plan of a graph."""
    stages, edges = graph
    return tuple((stages[k][0], tuple(origin for origin, target, _, _ in edges if target == k))
                 for k in range(len(stages) - 1))


def plain_channels(graph):
    """The channels of a graph."""
    stages, edges = graph
    found = []
    for k, (origin, target, _, ship) in enumerate(edges):
        for i in range(stages[origin][1]):
            for j in range(stages[target][1]):
                if ship == "forward" and i == j or ship == "one" and j == 0 or ship not in ("forward", "one"):
                    found.append((k, (origin, i), (target, j)))
    return found


class PlainLies:
    """The lies of a graph whose plan is let by."""

    def __init__(self, graph):
        self.stages, self.edges = graph
        self.fields = [fields for fields, _ in fields_of(plain_plan(graph))]

    def edges_to(self, stage):
        return [edge for edge in self.edges if edge[1] == stage]

    def of_side(self, edge):
        """What is known of what comes in by an edge."""
        origin, target, _, ship = edge
        if self.stages[target][1] == 1:
            return "all"
        if type(ship) is tuple:
            return ship
        if ship == "forward" and type(self.of_output(origin)) is tuple:
            if self.stages[origin][2] == self.stages[target][2]:
                return self.of_output(origin)
        return None

    def of_output(self, stage):
        """What is known of what comes out of a stage."""
        operator, parallel, _ = self.stages[stage]
        if operator[0] == "sink":
            return None
        if parallel == 1:
            return "all"
        if operator[0] == "source":
            return None
        lies = [self.of_side(edge) for edge in self.edges_to(stage)]
        if operator[0] == "map":
            if type(lies[0]) is not tuple:
                return None
            names = [[name for name, tree in operator[1] if tree == ("column", column)] for column in lies[0]]
            return tuple(own[0] for own in names) if all(names) else None
        if operator[0] == "union":
            if not all(type(lie) is tuple for lie in lies):
                return None
            names = [[name for name, _ in self.fields[edge[0]]] for edge in self.edges_to(stage)]
            # Only a graph that is refused has a lie of columns that are not there.
            places = [[own.index(name) if name in own else None for name in lie] for own, lie in zip(names, lies)]
            return lies[0] if places[0] == places[1] else None
        return lies[0]

    def told(self):
        """The lies of all stages."""
        return [([self.of_side(edge) for edge in self.edges_to(k)], self.of_output(k))
                for k in range(len(self.stages))]

    def binding(self, stage):
        """The columns that bind the sides of a stage, or None."""
        return plain_binding(self.stages[stage][0], [self.fields[edge[0]] for edge in self.edges_to(stage)])

    def is_right(self, stage):
        """Whether a stage is shipped rightly."""
        operator, parallel, _ = self.stages[stage]
        for origin, _, _, ship in self.edges_to(stage):
            if ship == "forward" and self.stages[origin][1] != parallel:
                return False
            if ship == "one" and parallel != 1:
                return False
            if type(ship) is tuple and (not ship or not set(ship) <= {name for name, _ in self.fields[origin]}):
                return False
        if parallel == 1 or operator[0] in ("source", "filter", "map", "union"):
            return True
        binding, lies = self.binding(stage), [self.of_side(edge) for edge in self.edges_to(stage)]
        return any(all(lie == tuple(columns[place] for place in places) for lie, columns in zip(lies, binding))
                   for places in places_of(len(binding[0])))

    def first_wrong(self):
        """The number of the first edge of the first stage that is not shipped rightly, or None."""
        for stage in range(len(self.stages)):
            if not self.is_right(stage):
                return [edge[1] for edge in self.edges].index(stage)
        return None


def places_of(many):
    """All rows of places, one or more and none twice."""
    found = [(place,) for place in range(many)]
    for places in found:
        found.extend(places + (place,) for place in range(many) if place not in places)
    return found


def plain_receiver(graph, fields, edge, task, row):
    """The task to which an edge ships a row of a task."""
    _, target, _, ship = edge
    if ship == "forward":
        return task
    return 0 if ship == "one" else graph[0][target][2][group_of(plain_key(row, fields, ship))]


def plain_lay_out(plan, parallel):
    """The graph of a plan that is laid out."""
    fields = [own for own, _ in fields_of(plan)]
    stages, edges = [], []
    for node, (operator, inputs) in enumerate(plan):
        binding = plain_binding(operator, [fields[below] for below in inputs])
        many = 1 if binding is not None and binding[0] == () else parallel[node]
        stages.append((operator, many, tuple(group * many // 16 for group in range(16))))
    stages.append((("sink",), 1, (0,) * 16))
    for node, (operator, inputs) in enumerate(plan + ((("sink",), (len(plan) - 1,)),)):
        for side, ship in enumerate(plain_ships(stages, edges, fields, node, operator, inputs)):
            edges.append((inputs[side], node, side, ship))
    return stages, edges


def plain_ships(stages, edges, fields, node, operator, inputs):
    """How rows are shipped to the sides of a node."""
    if stages[node][1] == 1:
        return ["forward" if stages[below][1] == 1 else "one" for below in inputs]
    as_many = [stages[below][1] == stages[node][1] for below in inputs]
    if operator[0] in ("source", "filter", "map", "union"):
        return ["forward" if fitting else tuple(name for name, _ in fields[below])
                for below, fitting in zip(inputs, as_many)]
    lies = PlainLies((stages[:node] + stages[-1:], edges + [(node - 1, node, 0, "one")]))
    binding = plain_binding(operator, [fields[below] for below in inputs])

    def fits(side):
        lie = lies.of_output(inputs[side])
        found = [places for places in places_of(len(binding[side]))
                 if lie == tuple(binding[side][place] for place in places)]
        return found[0] if as_many[side] and found else None

    if len(inputs) == 1:
        return ["forward" if fits(0) else binding[0]]
    if fits(0) and fits(1) and fits(0) == fits(1):
        return ["forward", "forward"]
    if fits(0):
        return ["forward", tuple(binding[1][place] for place in fits(0))]
    if fits(1):
        return [tuple(binding[0][place] for place in fits(1)), "forward"]
    return list(binding)
