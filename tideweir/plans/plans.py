"""Plans of operators: their faults, the fields of their nodes, and their meaning."""

from tideweir.errors import InvalidOperator, InvalidPlan, UnknownSource
from tideweir.operators.checks import check_operator, sides_of
from tideweir.operators.define import define

MOST_NODES = 16


def check_plan(plan):
    """Return None if a plan is let by; otherwise raise InvalidPlan."""
    fields_of(plan)


def fields_of(plan):
    """Return the list of the fields and kinds of all nodes; raise InvalidPlan if the plan is not let by."""
    if not plan:
        raise InvalidPlan("no nodes")
    if len(plan) > MOST_NODES:
        raise InvalidPlan(f"more than {MOST_NODES} nodes")
    told = []
    for node in range(len(plan)):
        told.append(fields_of_node(plan, node, told))
    return told


def fields_of_node(plan, node, before):
    """Return the fields and the kind of a node, for those of the nodes before it; raise InvalidPlan for a fault."""
    operator, inputs = plan[node]
    sides = 0 if is_source(operator) else sides_of(operator)
    if len(inputs) != sides or not all(0 <= number < node for number in inputs):
        raise InvalidPlan(f"node {node}: inputs")
    if is_source(operator):
        if has_other_fields(operator, [other for other, _ in plan[:node]]):
            raise InvalidPlan(f"node {node}: other fields")
        return operator[2], "events"
    try:
        return check_operator(operator, [before[number] for number in inputs])
    except InvalidOperator as fault:
        raise InvalidPlan(f"node {node}: {fault.message}") from None


def is_source(operator):
    """Return True if an operator is that of a source node."""
    return operator[0] == "source"


def has_other_fields(source, operators):
    """Return True if one of some operators is a source of the same name with other fields."""
    return any(is_source(other) and other[1] == source[1] and other[2] != source[2] for other in operators)


def sources_of(plan):
    """Return the names of the sources of a plan, each once, in the order of the nodes."""
    names = []
    for operator, _ in plan:
        if is_source(operator) and operator[1] not in names:
            names.append(operator[1])
    return names


def meanings(plan, flows):
    """Return the flows of all nodes of a plan; raise InvalidPlan, or UnknownSource for a source without a flow."""
    fields = fields_of(plan)
    for name in sources_of(plan):
        if name not in flows:
            raise UnknownSource(name)
    told = []
    for operator, inputs in plan:
        if is_source(operator):
            told.append(list(flows[operator[1]]))
        else:
            told.append(define(operator, [fields[node][0] for node in inputs], [told[node] for node in inputs]))
    return told


def meaning(plan, flows):
    """Return the flow of the root of a plan, in the same way."""
    return meanings(plan, flows)[-1]
