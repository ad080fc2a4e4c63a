"""The rules of the document once more, over trees in the place of lists of nodes.

A tree is a tuple of an operator and the tuple of its inputs, which are trees. Nodes that are alike are the same tree.
"""

from tests.random_trees import names_in
from tideweir.errors import InvalidPlan
from tideweir.plans.plans import fields_of

RULES = ("all", "same", "filters", "maps", "under map", "under union", "under left", "under right", "under keys",
         "narrow", "turn", "distinct", "tops", "firsts")


def tree_of(plan, node):
    """The tree of a node."""
    return plan[node][0], tuple(tree_of(plan, below) for below in plan[node][1])


def plan_of_tree(tree):
    """The tidy plan of a tree."""
    numbers, nodes = {}, []

    def visit(one):
        if repr(one) not in numbers:
            inputs = tuple([visit(below) for below in one[1]])
            numbers[repr(one)] = len(nodes)
            nodes.append((one[0], inputs))
        return numbers[repr(one)]

    visit(tree)
    return tuple(nodes)


def put_in_place(tree, old, new):
    """A tree in which another one stands in the place of one, wherever that is."""
    if repr(tree) == repr(old):
        return new
    return tree[0], tuple(put_in_place(below, old, new) for below in tree[1])


def fields_of_tree(tree):
    """The fields of a tree."""
    return fields_of(plan_of_tree(tree))[-1][0]


def names(tree):
    """The columns of a tree."""
    return [name for name, _ in fields_of_tree(tree)]


def put_in(expression, mapping):
    """An expression with others in the place of columns."""
    if expression[0] == "column":
        return mapping[expression[1]] if expression[1] in mapping else expression
    if expression[0] == "value":
        return expression
    return tuple(put_in(part, mapping) if isinstance(part, tuple) else part for part in expression)


def as_it_is(columns):
    """A map to columns."""
    return ("map", tuple((name, ("column", name)) for name in columns))


def plain_step(plan, rule, node):
    """The plan that a step gives, or None."""
    root, old = tree_of(plan, len(plan) - 1), tree_of(plan, node)
    if not old[1]:
        return None
    new = SHAPES[rule](old[0], old[1], old[1][0])
    if new is None:
        return None
    changed = plan_of_tree(put_in_place(root, old, new))
    try:
        if fields_of(changed)[-1] != fields_of(plan)[-1]:
            return None
    except InvalidPlan:
        return None
    return None if repr(changed) == repr(plan) else changed


def plain_steps(plan):
    """All steps of a plan, with what they give."""
    found = [((rule, node), plain_step(plan, rule, node)) for node in range(len(plan)) for rule in RULES]
    return [(step, changed) for step, changed in found if changed is not None]


def filtered(tree, expression):
    """The filter over a tree."""
    return (("filter", expression), (tree,))


def both_are(n, m, outer, *inner):
    """Whether operators have these words."""
    return n[0] == outer and m[0] in inner


def on_all(n, inputs, a):
    return a if repr(n) == repr(("filter", ("value", True))) else None


def on_same(n, inputs, a):
    return a if repr(n) == repr(as_it_is(names(a))) else None


def on_filters(n, inputs, a):
    if both_are(n, a[0], "filter", "filter"):
        return filtered(a[1][0], ("binary", "and", a[0][1], n[1]))
    return None


def on_maps(n, inputs, a):
    if both_are(n, a[0], "map", "map"):
        return (("map", tuple((name, put_in(tree, dict(a[0][1]))) for name, tree in n[1])), a[1])
    return None


def on_under_map(n, inputs, a):
    if both_are(n, a[0], "filter", "map"):
        return (a[0], (filtered(a[1][0], put_in(n[1], dict(a[0][1]))),))
    return None


def on_under_union(n, inputs, a):
    if both_are(n, a[0], "filter", "union"):
        c, d = a[1]
        mapping = {one: ("column", other) for one, other in zip(names(c), names(d))}
        return (a[0], (filtered(c, n[1]), filtered(d, put_in(n[1], mapping))))
    return None


def on_under_left(n, inputs, a):
    if both_are(n, a[0], "filter", "near", "asof", "join") and set(names_in(n[1])) <= set(names(a[1][0])):
        return (a[0], (filtered(a[1][0], n[1]), a[1][1]))
    return None


def on_under_right(n, inputs, a):
    if both_are(n, a[0], "filter", "near", "asof", "join") and "left" not in a[0] and names_in(n[1]):
        if set(names_in(n[1])) <= set(names(a[1][1])):
            return (a[0], (a[1][0], filtered(a[1][1], n[1])))
    return None


def on_under_keys(n, inputs, a):
    if both_are(n, a[0], "filter", "distinct") or (
            both_are(n, a[0], "filter", "group", "top", "window", "first") and set(names_in(n[1])) <= set(a[0][1])):
        return (a[0], (filtered(a[1][0], n[1]),))
    return None


def on_narrow(n, inputs, a):
    if n[0] not in ("group", "window") or {"first", "last"} & {word for _, word, _ in n[-1]}:
        return None
    used = set(n[1]) | {column for _, _, column in n[-1]}
    columns = [name for name in names(a) if name in used]
    columns = columns if columns else [names(a)[0]]
    return (n, ((as_it_is(columns), (a,)),)) if len(columns) < len(names(a)) else None


def on_turn(n, inputs, a):
    if n[0] == "join":
        turned = ("join", tuple(pair[::-1] for pair in n[1]))
    elif n[0] == "near" and n[-1] == "inner":
        turned = ("near", tuple(pair[::-1] for pair in n[1]), 0 - n[3], 0 - n[2], "inner")
    else:
        return None
    return (as_it_is(names((n, inputs))), ((turned, (inputs[1], inputs[0])),))


def on_distinct(n, inputs, a):
    return a if both_are(n, a[0], "distinct", "distinct", "group") else None


def on_tops(n, inputs, a):
    if both_are(n, a[0], "top", "top") and n[1] == a[0][1] and n[2] == a[0][2]:
        return (n if n[3] < a[0][3] else a[0], a[1])
    return None


def on_firsts(n, inputs, a):
    return a if both_are(n, a[0], "first", "first") and n[1] == a[0][1] and n[2] <= a[0][2] else None


SHAPES = {"all": on_all, "same": on_same, "filters": on_filters, "maps": on_maps, "under map": on_under_map,
          "under union": on_under_union, "under left": on_under_left, "under right": on_under_right,
          "under keys": on_under_keys, "narrow": on_narrow, "turn": on_turn, "distinct": on_distinct,
          "tops": on_tops, "firsts": on_firsts}
