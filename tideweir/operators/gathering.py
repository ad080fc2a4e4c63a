"""Rows of one key that are looked at together: distinct, group, top, window and first."""

from tideweir.flows.flows import flow_of
from tideweir.flows.tables import changes_of, table_of, tables_of
from tideweir.operators.aggregates import aggregated
from tideweir.operators.keyed import key_columns, parts_by_key
from tideweir.operators.windows import windows_of
from tideweir.values.keys import key_of
from tideweir.values.order import value_order
from tideweir.values.rows import column_index


def parts_of_side(operator, fields, flow):
    """Return the list of the flows of the keys of an operator with one side."""
    columns = key_columns(operator, fields)[0]
    return list(parts_by_key(flow, fields[0], columns).values())


def gather(operator, fields, flow):
    """Return the output of a distinct, group or top: the changes of the table that it makes of its input's."""
    moves = []
    # The table of a key changes at the times of this key's moves alone.
    for part in parts_of_side(operator, fields, flow):
        moves.extend(changes_of([(time, table_told(operator, fields[0], table)) for time, table in tables_of(part)]))
    return flow_of(moves)


def table_told(operator, fields, table):
    """Return the table that a distinct, group or top makes of the rows of one key."""
    if operator[0] == "distinct":
        return [(row, 1) for row, weight in table if weight > 0]
    if operator[0] == "top":
        return top_of(operator, fields, table)
    if not table:
        return []
    return [(key_of(table[0][0], fields, operator[1]) + aggregated(operator[2], fields, table), 1)]


def top_of(operator, fields, table):
    """Return the table of the first rows of one key."""
    ordered = table
    # Sorting keeps the order of what is equal: the last column is sorted by first, and rows stand in order before.
    for name, way in reversed(operator[2]):
        ordered = ordered_by(ordered, column_index(fields, name), way)
    first = []
    room = operator[3]
    for row, weight in ordered:
        if room > 0:
            first.append((row, min(weight, room)))
            room -= weight
    return table_of(first)


def ordered_by(table, index, way):
    """Return the pairs of rows and weights in the order of the values at an index."""
    if way == "down":
        return sorted(table, key=lambda pair: value_order(pair[0][index]), reverse=True)
    return sorted(table, key=lambda pair: value_order(pair[0][index]))


def in_windows(operator, fields, flow, above):
    """Return the output above a time of a window."""
    keys = operator[1]
    moves = []
    for events in parts_of_side(operator, fields, flow):
        key = key_of(events[0][1], fields[0], keys)
        for begin, end in open_windows(operator, events, above):
            inside = [(row, weight) for time, row, weight in events if begin <= time < end]
            moves.append((end - 1, key + (begin, end) + aggregated(operator[3], fields[0], inside), 1))
    return flow_of(moves)


def open_windows(operator, events, mark):
    """Return the windows of one key's events whose last time is above a mark."""
    windows = windows_of(operator[2], [time for time, _, _ in events])
    return [(begin, end) for begin, end in windows if end - 1 > mark]


def in_open_windows(operator, fields, flow, mark):
    """Return the flow of the events that lie in a window whose last time is above a mark."""
    kept = []
    for events in parts_of_side(operator, fields, flow):
        windows = open_windows(operator, events, mark)
        kept.extend([move for move in events if any([begin <= move[0] < end for begin, end in windows])])
    return flow_of(kept)


def firsts_of(operator, fields, flow):
    """Return the output of a first."""
    ttl = operator[2]
    moves = []
    for events in parts_of_side(operator, fields, flow):
        latest = None
        for time, row, _ in events:
            if latest is None or latest <= time - ttl:
                moves.append((time, row, 1))
                latest = time
    return flow_of(moves)
