"""What operators make of the flows of their sides."""

from tideweir.expressions.evaluating import evaluate
from tideweir.flows.flows import flow_of, sum_flows
from tideweir.operators.gathering import firsts_of, gather, in_windows
from tideweir.operators.pairing import pair_up


def define(operator, fields, flows):
    """Return the output flow of an operator for the flows of its sides."""
    return output_above(operator, fields, working_flows(operator, flows), -1)


def working_flows(operator, flows):
    """Return the flows from which an operator's output is reckoned.

    They are those of the sides. A near has a third one: the moves of side 0 that may come out alone.
    """
    return list(flows) + [flows[0]] if operator[0] == "near" else list(flows)


def output_above(operator, fields, flows, above):
    """Return a flow whose part above a time is that of an operator's output, for its working flows."""
    word = operator[0]
    if word == "filter":
        return [move for move in flows[0] if evaluate(operator[1], fields[0], move[1]) is True]
    if word == "map":
        return flow_of([(time, row_of_values(operator[1], fields[0], row), weight) for time, row, weight in flows[0]])
    if word == "union":
        return sum_flows(flows)
    if word == "window":
        return in_windows(operator, fields, flows[0], above)
    if word == "first":
        return firsts_of(operator, fields, flows[0])
    if word in ("near", "asof", "join"):
        return pair_up(operator, fields, flows, above)
    return gather(operator, fields, flows[0])


def row_of_values(to, fields, row):
    """Return the row of the values that a map has at a row."""
    return tuple([evaluate(expression, fields, row) for _, expression in to])
