"""What each rule puts in the place of a node.

Each function gets a plan, the fields of all of its nodes, and the number of a node that is no source. It returns None
if the rule does not speak of such a node. Otherwise it returns a list of new nodes: they have the numbers from that of
the node on, and the last one stands in its place. An empty list says that its input, the node A, stands there.
"""

from tideweir.expressions.trees import columns_of, substituted


def names_of(fields):
    """Return the list of the columns of fields."""
    return [name for name, _ in fields]


def as_themselves(names):
    """Return the map that hands on columns as they are."""
    return ("map", tuple([(name, ("column", name)) for name in names]))


def are(plan, node, word, inner):
    """Return True if a node's operator has a word, and that of its first input one of some words."""
    operator, inputs = plan[node]
    return operator[0] == word and plan[inputs[0]][0][0] in inner


def pass_all(plan, fields, node):
    """A filter that lets all through is left out."""
    word, *rest = plan[node][0]
    if word == "filter" and rest[0][0] == "value" and rest[0][1] is True:
        return []
    return None


def map_same(plan, fields, node):
    """A map to the columns that there are is left out."""
    operator, inputs = plan[node]
    return [] if operator == as_themselves(names_of(fields[inputs[0]][0])) else None


def merge_filters(plan, fields, node):
    """Two filters become one."""
    if not are(plan, node, "filter", ("filter",)):
        return None
    operator, inputs = plan[node]
    inner, below = plan[inputs[0]]
    return [(("filter", ("binary", "and", inner[1], operator[1])), below)]


def merge_maps(plan, fields, node):
    """Two maps become one."""
    if not are(plan, node, "map", ("map",)):
        return None
    operator, inputs = plan[node]
    inner, below = plan[inputs[0]]
    mapping = dict(inner[1])
    return [(("map", tuple([(name, substituted(expression, mapping)) for name, expression in operator[1]])), below)]


def under_map(plan, fields, node):
    """A filter goes below a map."""
    if not are(plan, node, "filter", ("map",)):
        return None
    operator, inputs = plan[node]
    inner, below = plan[inputs[0]]
    return [(("filter", substituted(operator[1], dict(inner[1]))), below), (inner, (node,))]


def under_union(plan, fields, node):
    """A filter goes below a union, on both sides."""
    if not are(plan, node, "filter", ("union",)):
        return None
    operator, inputs = plan[node]
    inner, (c, d) = plan[inputs[0]]
    mapping = {name: ("column", other) for (name, _), (other, _) in zip(fields[c][0], fields[d][0])}
    return [(operator, (c,)), (("filter", substituted(operator[1], mapping)), (d,)), (inner, (node, node + 1))]


def under_left(plan, fields, node):
    """A filter goes below an operator of two sides, on side 0."""
    if not are(plan, node, "filter", ("near", "asof", "join")):
        return None
    operator, inputs = plan[node]
    inner, (c, d) = plan[inputs[0]]
    if not all(name in names_of(fields[c][0]) for name in columns_of(operator[1])):
        return None
    return [(operator, (c,)), (inner, (node, d))]


def under_right(plan, fields, node):
    """A filter goes below an operator of two sides that keeps no row without a partner, on side 1."""
    if not are(plan, node, "filter", ("near", "asof", "join")):
        return None
    operator, inputs = plan[node]
    inner, (c, d) = plan[inputs[0]]
    used = columns_of(operator[1])
    keeps_partners = inner[0] == "join" or inner[-1] == "inner"
    if not used or not keeps_partners or not all(name in names_of(fields[d][0]) for name in used):
        return None
    return [(operator, (d,)), (inner, (c, node))]


def under_keys(plan, fields, node):
    """A filter that takes away whole keys goes below what looks at keys."""
    if not are(plan, node, "filter", ("group", "top", "window", "first", "distinct")):
        return None
    operator, inputs = plan[node]
    inner, below = plan[inputs[0]]
    if inner[0] != "distinct" and not all(name in inner[1] for name in columns_of(operator[1])):
        return None
    return [(operator, below), (inner, (node,))]


def narrow(plan, fields, node):
    """What is not used by a group or window is taken away ahead of it."""
    operator, inputs = plan[node]
    # The order of rows tells which one is first or last, so that all columns count there.
    if operator[0] not in ("group", "window") or any(word in ("first", "last") for _, word, _ in operator[-1]):
        return None
    wanted = list(operator[1]) + [column for _, _, column in operator[-1]]
    names = names_of(fields[inputs[0]][0])
    used = [name for name in names if name in wanted] or names[:1]
    if len(used) == len(names):
        return None
    return [(as_themselves(used), inputs), (operator, (node,))]


def turn(plan, fields, node):
    """The sides of a join, or of a near that keeps no row without a partner, are turned about."""
    operator, inputs = plan[node]
    back = as_themselves(names_of(fields[node][0]))
    if operator[0] == "join":
        return [(("join", turned_pairs(operator[1])), inputs[::-1]), (back, (node,))]
    if operator[0] == "near" and operator[4] == "inner":
        _, on, low, high, keep = operator
        return [(("near", turned_pairs(on), -high, -low, keep), inputs[::-1]), (back, (node,))]
    return None


def turned_pairs(on):
    """Return pairs of columns with the other one first in each."""
    return tuple([(b, a) for a, b in on])


def distinct_once(plan, fields, node):
    """What has each row once stays as it is."""
    return [] if are(plan, node, "distinct", ("distinct", "group")) else None


def merge_tops(plan, fields, node):
    """Two tops become one."""
    operator, inputs = plan[node]
    if not are(plan, node, "top", ("top",)):
        return None
    inner, below = plan[inputs[0]]
    if operator[1:3] != inner[1:3]:
        return None
    return [(operator[:3] + (min(operator[3], inner[3]),), below)]


def merge_firsts(plan, fields, node):
    """A first that lets all through which came through another one is left out."""
    operator, inputs = plan[node]
    if not are(plan, node, "first", ("first",)):
        return None
    inner = plan[inputs[0]][0]
    return [] if operator[1] == inner[1] and operator[2] <= inner[2] else None


SHAPES = {
    "all": pass_all,
    "same": map_same,
    "filters": merge_filters,
    "maps": merge_maps,
    "under map": under_map,
    "under union": under_union,
    "under left": under_left,
    "under right": under_right,
    "under keys": under_keys,
    "narrow": narrow,
    "turn": turn,
    "distinct": distinct_once,
    "tops": merge_tops,
    "firsts": merge_firsts,
}


def added_by(rule, plan, fields, node):
    """Return the new nodes that a rule puts in the place of a node, or None."""
    shape = SHAPES[rule]
    return shape(plan, fields, node)
