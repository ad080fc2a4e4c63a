"""What the document says of states, written down once more, as literally as can be."""

from tests.plain_operators import agree, firsts, keys_of, plain_key, plain_sum, plain_table, plain_windows, same
from tideweir.values.keys import group_of

SIDES_OF_KEPT = {"filter": (), "map": (), "union": (), "near": (0, 1, 0), "asof": (1,), "join": (0, 1)}
TABLES = ("distinct", "group", "top", "join", "asof")


def up_to(flow, mark):
    """The moves of a flow up to a mark."""
    return [move for move in flow if move[0] <= mark]


def plain_kept(operator, fields, flows, mark):
    """What is kept at a mark."""
    word = operator[0]
    if word in ("filter", "map", "union"):
        return []
    if word in ("distinct", "group", "top"):
        return [plain_table(flows[0], mark)]
    if word == "join":
        return [plain_table(flows[0], mark), plain_table(flows[1], mark)]
    if word == "asof":
        return [plain_table(flows[1], mark)]
    if word == "near":
        return kept_of_near(operator, fields, [up_to(flow, mark) for flow in flows], mark)
    if word == "first":
        return [[move for move in plain_sum(firsts(operator, fields, flows))
                 if move[0] <= mark and move[0] + operator[2] > mark + 1]]
    return [kept_of_window(operator, fields, up_to(flows[0], mark), mark)]


def kept_of_near(operator, fields, past, mark):
    """What a near keeps."""
    _, on, low, high, keep = operator
    one = [move for move in past[0] if move[0] + high > mark]
    other = [move for move in past[1] if move[0] - low > mark]
    alone = [l for l in one if not any(agree(on, fields, l[1], r[1]) and l[0] + low <= r[0] <= l[0] + high
                                       for r in past[1])]
    return [one, other, alone if keep == "left" else []]


def kept_of_window(operator, fields, past, mark):
    """What a window keeps."""
    _, keys, window, _ = operator
    kept = []
    for key in keys_of([row for _, row, _ in past], fields[0], keys):
        mine = [move for move in past if same(plain_key(move[1], fields[0], keys), key)]
        windows = [(a, b) for a, b in plain_windows(window, [move[0] for move in mine]) if b - 1 > mark]
        kept += [move for move in mine if any(a <= move[0] < b for a, b in windows)]
    return plain_sum(kept)


def plain_state(operator, fields, flows, mark):
    """The state at a mark."""
    pending = [[move for move in flow if move[0] > mark] for flow in flows]
    return (mark, pending, plain_kept(operator, fields, flows, mark))


def plain_split(operator, fields, columns, state, groups):
    """A state that is split."""
    def lies_there(side, row):
        if columns[side] is None:
            return 0 in groups
        return group_of(plain_key(row, fields[side], columns[side])) in groups

    mark, pending, kept = state
    row_at = 0 if operator[0] in TABLES else 1
    return (mark, [[move for move in flow if lies_there(side, move[1])] for side, flow in enumerate(pending)],
            [[item for item in items if lies_there(side, item[row_at])]
             for side, items in zip(SIDES_OF_KEPT.get(operator[0], (0,)), kept)])


def plain_binding(operator, fields):
    """The columns that bind the sides of an operator, or None."""
    word = operator[0]
    if word in ("source", "sink", "filter", "map", "union"):
        return None
    if word in ("near", "asof", "join"):
        return [tuple(a for a, _ in operator[1]), tuple(b for _, b in operator[1])]
    return [tuple(name for name, _ in fields[0]) if word == "distinct" else operator[1]]
