"""Laying out plans: how many tasks the nodes get, and how rows come from one to the next."""

from tideweir.errors import InvalidGraph
from tideweir.graphs.lies import columns_at, lie_of_output, lie_of_side, places_of_lie
from tideweir.handles.states import binding_columns
from tideweir.plans.plans import fields_of, is_source
from tideweir.values.keys import GROUPS


def even_owners(parallel):
    """Return the owners of the key groups for a number of tasks."""
    return tuple([group * parallel // GROUPS for group in range(GROUPS)])


def lay_out(plan, parallel):
    """Return the graph of a plan with a number of tasks for each node; raise InvalidPlan or InvalidGraph."""
    told = fields_of(plan)
    check_all_lead_on(plan)
    stages = stages_of(plan, parallel, told)
    edges = []
    lies_out = []
    for number, (_, inputs) in enumerate(plan):
        fields = [told[node][0] for node in inputs]
        ships = ships_of(stages, number, inputs, fields, lies_out)
        own = [(node, number, side, ships[side]) for side, node in enumerate(inputs)]
        lies = [lie_of_side(stages, edge, lies_out) for edge in own]
        lies_out.append(lie_of_output(stages[number], fields, lies))
        edges.extend(own)
    root = len(plan) - 1
    edges.append((root, root + 1, 0, ship_to_one(stages, root)))
    return (stages, edges)


def check_all_lead_on(plan):
    """Return None if each node but the root is an input; otherwise raise InvalidGraph."""
    inputs = [node for _, below in plan for node in below]
    for number in range(len(plan) - 1):
        if number not in inputs:
            raise InvalidGraph(f"node {number} leads nowhere")


def stages_of(plan, parallel, told):
    """Return the list of the stages of a plan, and the sink behind them."""
    stages = []
    for number, (operator, inputs) in enumerate(plan):
        many = parallel[number]
        if not is_source(operator) and binds_by_nothing(operator, [told[node][0] for node in inputs]):
            many = 1
        stages.append((operator, many, even_owners(many)))
    return stages + [(("sink",), 1, even_owners(1))]


def binds_by_nothing(operator, fields):
    """Return True if an operator takes all rows together, as it binds columns and these are none."""
    columns = binding_columns(operator, fields)
    return columns is not None and not columns[0]


def ship_to_one(stages, origin):
    """Return how rows are shipped from a stage to one with one task."""
    return "forward" if stages[origin][1] == 1 else "one"


def ships_of(stages, number, inputs, fields, lies_out):
    """Return how rows are shipped to each side of a stage, for the fields of its sides."""
    operator, parallel, _ = stages[number]
    if is_source(operator):
        return []
    if parallel == 1:
        return [ship_to_one(stages, node) for node in inputs]
    as_many = [stages[node][1] == parallel for node in inputs]
    binding = binding_columns(operator, fields)
    if binding is None:
        return ["forward" if fitting else all_columns(own) for fitting, own in zip(as_many, fields)]
    places = [
        places_of_lie(lies_out[node], columns) if fitting else None
        for node, columns, fitting in zip(inputs, binding, as_many)
    ]
    return ships_by_places(binding, places)


def all_columns(fields):
    """Return the tuple of all columns of fields."""
    return tuple([name for name, _ in fields])


def ships_by_places(binding, places):
    """Return the ways to ship to sides with binding columns; places are None for a side that does not fit."""
    common = None
    # The first side that fits says at which places the other one is to lie.
    for found in places:
        common = found if common is None else common
    if common is None:
        return list(binding)
    return ["forward" if found == common else columns_at(columns, common)
            for columns, found in zip(binding, places)]
