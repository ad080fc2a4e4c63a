"""Tables of flows, the changes between tables, and lawful flows."""

from tideweir.flows.flows import flow_of, sum_by_rows
from tideweir.values.order import row_order


def table_of(pairs):
    """Return the table that has for each row the sum of its weights in a list of pairs."""
    return sum_by_rows(pairs)


def tables_of(flow):
    """Yield a pair of the time and the table at it for each time at which the flow has a move."""
    # A caller may change the flow, or a table that was told, before it asks for the next one.
    moves = list(flow)
    table = {}
    for index, (time, row, weight) in enumerate(moves):
        add_to_table(table, row, weight)
        if index + 1 == len(moves) or moves[index + 1][0] != time:
            yield (time, [table[place] for place in sorted(table)])


def add_to_table(table, row, weight):
    """Add a weight to that of a row in a dict of the orders of rows with their rows and weights."""
    place = row_order(row)
    before = table[place][1] if place in table else 0
    if before + weight == 0:
        table.pop(place, None)
    else:
        table[place] = (row, before + weight)


def changes_of(tables):
    """Return the flow whose table at each of the times told is the one told."""
    moves = []
    before = []
    for time, table in tables:
        moves.extend([(time, row, weight) for row, weight in table])
        moves.extend([(time, row, -weight) for row, weight in before])
        before = table
    return flow_of(moves)


def is_lawful(flow):
    """Return True if no row has a weight below 0 in the table at any time."""
    weights = {}
    # A flow has at most one move of a row at a time, so that each sum on the way is one of a table.
    for _, row, weight in flow:
        place = row_order(row)
        weights[place] = weights.get(place, 0) + weight
        if weights[place] < 0:
            return False
    return True


def is_events(flow):
    """Return True if a flow has no weight below 0."""
    return all(weight >= 0 for _, _, weight in flow)
