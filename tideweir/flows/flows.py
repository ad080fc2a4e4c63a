"""Flows: lists of weighted rows at times, and their sums and parts."""

from tideweir.errors import InvalidFlow
from tideweir.values.order import row_order
from tideweir.values.rows import fits


def flow_of(moves):
    """Return the flow that is the sum of moves in any order."""
    rows = {}
    weights = {}
    for time, row, weight in moves:
        place = (time, row_order(row))
        rows[place] = row
        weights[place] = weights.get(place, 0) + weight
    places = [place for place in sorted(weights) if weights[place] != 0]
    return [(place[0], rows[place], weights[place]) for place in places]


def sum_flows(flows):
    """Return the sum of some flows."""
    return flow_of([move for flow in flows for move in flow])


def turned(flow):
    """Return the flow with the opposite weights."""
    return [(time, row, -weight) for time, row, weight in flow]


def part_of(flow, above, up_to):
    """Return the part of a flow above a time or mark and up to another one."""
    return [move for move in flow if above < move[0] <= up_to]


def table_at(flow, time):
    """Return the table of a flow at a time or mark."""
    return sum_by_rows([(row, weight) for moment, row, weight in flow if moment <= time])


def sum_by_rows(pairs):
    """Return the pairs of rows and weights, rows ascending, with the sum of each row's weights that is not 0."""
    # Moves of one time are summed and ordered just as the rows of a table are.
    return [(row, weight) for _, row, weight in flow_of([(0, row, weight) for row, weight in pairs])]


def check_flow(flow, fields):
    """Return None if a list of moves is a flow whose rows fit the fields; otherwise raise InvalidFlow."""
    before = None
    for time, row, weight in flow:
        place = (time, row_order(row))
        in_order = before is None or before < place
        if weight == 0 or not in_order or not fits(row, fields):
            raise InvalidFlow("that is no flow")
        before = place
