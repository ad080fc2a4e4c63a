"""Graphs: plans that are laid out over tasks, with the channels between these."""

from tideweir.errors import InvalidGraph
from tideweir.graphs.lies import lie_of_output, lie_of_side, places_of_lie
from tideweir.handles.states import binding_columns
from tideweir.operators.checks import sides_of
from tideweir.plans.plans import fields_of, is_source
from tideweir.values.keys import group_of
from tideweir.values.rows import column_index


def check_graph(graph):
    """Return None if a graph is not refused; otherwise raise InvalidGraph, or InvalidPlan for its plan."""
    stages, edges = graph
    sinks = [number for number, stage in enumerate(stages) if is_sink(stage[0])]
    if sinks != [len(stages) - 1] or stages[-1][1] != 1:
        raise InvalidGraph("the sink must be the last")
    for number in range(len(stages)):
        if not are_edges_right(graph, number):
            raise InvalidGraph(f"edges are wrong at stage {number}")
    origins = [edge[0] for edge in edges]
    for number in range(len(stages) - 1):
        if number not in origins:
            raise InvalidGraph(f"stage {number} leads nowhere")
    told = fields_of(plan_of(graph))
    lies = lies_with_fields(graph, told)
    for number in range(len(stages)):
        if not is_shipped_rightly(graph, number, told, lies[number][0]):
            raise InvalidGraph(f"edge {edges_ahead_of(graph, number)} ships wrongly")


def is_sink(operator):
    """Return True if an operator is that of the sink."""
    return operator[0] == "sink"


def sides_of_stage(operator):
    """Return how many sides a stage with this operator has."""
    if is_source(operator):
        return 0
    return 1 if is_sink(operator) else sides_of(operator)


def edges_to(graph, stage):
    """Return the list of the edges that lead to a stage."""
    return [edge for edge in graph[1] if edge[1] == stage]


def edges_ahead_of(graph, stage):
    """Return how many edges there are to the stages ahead of one, which is the number of its first edge."""
    return len([edge for edge in graph[1] if edge[1] < stage])


def are_edges_right(graph, stage):
    """Return True if the edges of a stage stand at their place, one for each side, from stages ahead of it."""
    stages, edges = graph
    own = edges_to(graph, stage)
    operator = stages[stage][0]
    if [edge[2] for edge in own] != list(range(sides_of_stage(operator))):
        return False
    first = edges_ahead_of(graph, stage)
    if edges[first:first + len(own)] != own:
        return False
    if is_sink(operator):
        return own[0][0] == stage - 1
    return all(0 <= edge[0] < stage for edge in own)


def is_shipped_rightly(graph, stage, told, lies):
    """Return True if a stage is shipped rightly, for the fields of the nodes and the lies of its sides."""
    stages, _ = graph
    operator, parallel, _ = stages[stage]
    own = edges_to(graph, stage)
    if not all(is_way_right(stages, edge, told) for edge in own):
        return False
    if parallel == 1 or is_source(operator):
        return True
    binding = binding_columns(operator, [told[edge[0]][0] for edge in own])
    if binding is None:
        return True
    places = places_of_lie(lies[0], binding[0])
    return places is not None and all(
        places_of_lie(lie, columns) == places for lie, columns in zip(lies, binding))


def is_way_right(stages, edge, told):
    """Return True if the way in which an edge ships goes with its two stages."""
    origin, target, _, ship = edge
    if ship == "forward":
        return stages[origin][1] == stages[target][1]
    if ship == "one":
        return stages[target][1] == 1
    return len(ship) > 0 and all(column_index(told[origin][0], name) is not None for name in ship)


def plan_of(graph):
    """Return the plan of a graph."""
    stages, _ = graph
    return tuple([
        (stage[0], tuple([edge[0] for edge in edges_to(graph, number)]))
        for number, stage in enumerate(stages) if not is_sink(stage[0])
    ])


def channels_of(graph):
    """Return the list of the channels of a graph, each with its edge and the tasks at its ends."""
    stages, edges = graph
    channels = []
    for number, (origin, target, _, ship) in enumerate(edges):
        for task in range(stages[origin][1]):
            for other in receivers(ship, task, stages[target][1]):
                channels.append((number, (origin, task), (target, other)))
    return channels


def receivers(ship, task, parallel):
    """Return the list of the tasks to which channels lead from one task."""
    if ship == "forward":
        return [task]
    return [0] if ship == "one" else list(range(parallel))


def tasks_of(graph):
    """Return the list of all tasks, pairs of a stage and a number."""
    stages, _ = graph
    return [(number, task) for number, stage in enumerate(stages) for task in range(stage[1])]


def lies_of(graph):
    """Return for each stage the list of the lies of its sides, and the lie of what comes out."""
    return lies_with_fields(graph, fields_of(plan_of(graph)))


def lies_with_fields(graph, told):
    """Return the lies, for the fields of all nodes."""
    stages, _ = graph
    lies = []
    for number, stage in enumerate(stages):
        own = edges_to(graph, number)
        out = [of_stage[1] for of_stage in lies]
        of_sides = [lie_of_side(stages, edge, out) for edge in own]
        lies.append((of_sides, lie_of_output(stage, [told[edge[0]][0] for edge in own], of_sides)))
    return lies


def owner_of(graph, stage, values):
    """Return the task of a stage to which the key group of some values belongs."""
    stages, _ = graph
    return stages[stage][2][group_of(values)]


def fields_at(graph, stage):
    """Return for each side of a stage the pair of its fields and its kind."""
    told = fields_of(plan_of(graph))
    return [told[edge[0]] for edge in edges_to(graph, stage)]
