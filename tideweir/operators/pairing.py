"""Rows of two sides that are put together: near, asof and join."""

from tideweir.flows.flows import flow_of, sum_by_rows, sum_flows
from tideweir.operators.keyed import key_columns, parts_by_key, place_of_key


def pair_up(operator, fields, flows, above):
    """Return the output above a time of a near, asof or join.

    For a near there is a third flow: the moves of side 0 that come out alone if they have no partner.
    """
    joined = joined_rows(operator, fields, flows, above)
    if operator[0] == "join" or operator[-1] == "inner":
        return joined
    waiting = flows[2] if operator[0] == "near" else flows[0]
    nothing = (None,) * len(fields[1])
    alone = without_partner(operator, fields, waiting, flows[1])
    return sum_flows([joined, [(time_alone(operator, time), row + nothing, weight) for time, row, weight in alone]])


def joined_rows(operator, fields, flows, above):
    """Return the flow of the joined rows of partners, of times above the one given."""
    columns = key_columns(operator, fields)
    others = parts_by_key(flows[1], fields[1], columns[1])
    moves = []
    # A product of tables is the sum of the products of their moves, each from the later one on.
    for time, row, weight in flows[0]:
        for other_time, other, other_weight in others.get(place_of_key(row, fields[0], columns[0]), []):
            later = max(time, other_time)
            if later > above and are_partners(operator, time, other_time):
                moves.append((later, row + other, weight * other_weight))
    return flow_of(moves)


def are_partners(operator, time, other):
    """Return True if moves with the same keys, of side 0 at a time and of side 1 at another one, go together."""
    if operator[0] == "near":
        return time + operator[2] <= other <= time + operator[3]
    return operator[0] == "join" or other <= time


def without_partner(operator, fields, flow, others):
    """Return the moves of a flow of side 0 that have no partner in one of side 1."""
    columns = key_columns(operator, fields)
    parts = parts_by_key(others, fields[1], columns[1])
    alone = []
    for move in flow:
        moves = parts.get(place_of_key(move[1], fields[0], columns[0]), [])
        partners = [(row, weight) for time, row, weight in moves if are_partners(operator, move[0], time)]
        # What came and went again on side 1 is no partner.
        if not sum_by_rows(partners):
            alone.append(move)
    return alone


def time_alone(operator, time):
    """Return the time at which a row of side 0 is told that has no partner."""
    return max(time, time + operator[3]) if operator[0] == "near" else time
