"""States of operators at a mark: what has to be kept of the inputs, and how it is split and joined."""

from tideweir.errors import InvalidState
from tideweir.flows.flows import part_of, sum_flows, table_at
from tideweir.flows.logs import THE_END
from tideweir.flows.tables import table_of
from tideweir.operators.define import working_flows
from tideweir.operators.gathering import firsts_of, in_open_windows
from tideweir.operators.keyed import key_columns
from tideweir.operators.pairing import without_partner
from tideweir.values.keys import group_of, key_of

# The sides of which the kept flows and tables are; of all other operators it is one of side 0.
SIDES_KEPT = {"filter": (), "map": (), "union": (), "near": (0, 1, 0), "asof": (1,), "join": (0, 1)}
OF_SIDE_0 = (0,)
KEEP_TABLES = ("distinct", "group", "top", "asof", "join")
BIND_NOTHING = ("filter", "map", "union")


def binding_columns(operator, fields):
    """Return the list of the columns that bind each side, or None for an operator that binds none."""
    return key_columns(operator, fields)


def kept_of(operator, fields, flows, mark):
    """Return what is kept at a mark, for the flows of the sides."""
    return kept_from(operator, fields, working_flows(operator, flows), mark)


def kept_from(operator, fields, flows, mark):
    """Return what is kept at a mark, for the working flows of an operator."""
    word = operator[0]
    past = [part_of(flow, -1, mark) for flow in flows]
    if word == "window":
        return [in_open_windows(operator, fields, past[0], mark)]
    if word == "first":
        return [[move for move in firsts_of(operator, fields, past[0]) if move[0] + operator[2] > mark + 1]]
    if word == "near":
        return kept_of_near(operator, fields, past, mark)
    return [table_at(past[side], mark) for side in SIDES_KEPT.get(word, OF_SIDE_0)]


def kept_of_near(operator, fields, past, mark):
    """Return what a near keeps of its working flows up to a mark: what can still find a partner above the mark."""
    _, _, low, high, keep = operator
    alone = without_partner(operator, fields, past[2], past[1]) if keep == "left" else []
    return [
        [move for move in past[0] if move[0] + high > mark],
        [move for move in past[1] if move[0] - low > mark],
        [move for move in alone if move[0] + high > mark],
    ]


def with_kept(operator, mark, kept, pieces):
    """Return working flows with the same output above a mark as the whole inputs.

    They are made of what is kept at the mark, and of the pieces of the sides' flows above it.
    """
    flows = working_flows(operator, pieces)
    # What a near keeps are just its working flows.
    sides = (0, 1, 2) if operator[0] == "near" else SIDES_KEPT.get(operator[0], OF_SIDE_0)
    for side, kept_there in zip(sides, kept):
        flows[side] = sum_flows([as_moves(operator, mark, kept_there), flows[side]])
    return flows


def as_moves(operator, mark, kept_there):
    """Return a kept flow as it is, and a kept table as moves at the mark."""
    if operator[0] in KEEP_TABLES:
        return [(mark, row, weight) for row, weight in kept_there]
    return kept_there


def state_of(operator, fields, flows, mark):
    """Return the state at a mark, for the flows of the sides."""
    pending = [part_of(flow, mark, THE_END) for flow in flows]
    return (mark, pending, kept_of(operator, fields, flows, mark))


def split_state(operator, fields, columns, state, groups):
    """Return the part of a state whose rows have keys by the sides' columns in some key groups."""
    mark, pending, kept = state
    pending_left = [
        [move for move in flow if belongs(move[1], fields[side], columns[side], groups)]
        for side, flow in enumerate(pending)
    ]
    kept_left = []
    row_at = 0 if operator[0] in KEEP_TABLES else 1
    for side, items in zip(SIDES_KEPT.get(operator[0], OF_SIDE_0), kept):
        kept_left.append([item for item in items if belongs(item[row_at], fields[side], columns[side], groups)])
    return (mark, pending_left, kept_left)


def belongs(row, fields, columns, groups):
    """Return True if a row's key by some columns lies in one of the groups; without columns it lies in group 0."""
    if columns is None:
        return 0 in groups
    return group_of(key_of(row, fields, columns)) in groups


def join_states(operator, states):
    """Return the state that is made of those of parts; raise InvalidState if they stand at marks that differ."""
    marks = [mark for mark, _, _ in states]
    if operator[0] not in BIND_NOTHING and min(marks) != max(marks):
        raise InvalidState("marks differ")
    _, pending, kept = states[0]
    pending_flows = [sum_flows([state[1][side] for state in states]) for side in range(len(pending))]
    kept_flows = [sum_of_kept(operator, [state[2][place] for state in states]) for place in range(len(kept))]
    return (min(marks), pending_flows, kept_flows)


def sum_of_kept(operator, parts):
    """Return the sum of some kept flows, or of some kept tables."""
    if operator[0] in KEEP_TABLES:
        return table_of([pair for part in parts for pair in part])
    return sum_flows(parts)
