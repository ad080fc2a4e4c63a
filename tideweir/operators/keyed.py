"""The columns by which operators take rows together, and flows taken apart by them."""

from tideweir.values.keys import key_of
from tideweir.values.order import row_order


def key_columns(operator, fields):
    """Return a list with a tuple of columns for each side, or None for an operator that looks at no key."""
    word = operator[0]
    if word in ("filter", "map", "union"):
        return None
    if word == "distinct":
        return [tuple([name for name, _ in fields[0]])]
    if word in ("near", "asof", "join"):
        return [tuple([pair[side] for pair in operator[1]]) for side in (0, 1)]
    return [operator[1]]


def place_of_key(row, fields, columns):
    """Return the order of a row's key, which can be looked up as it is the same for no other key."""
    return row_order(key_of(row, fields, columns))


def parts_by_key(flow, fields, columns):
    """Return a dict with the flow of each key, by the order of the key."""
    parts = {}
    for move in flow:
        parts.setdefault(place_of_key(move[1], fields, columns), []).append(move)
    return parts
