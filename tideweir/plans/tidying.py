"""Tidy plans, in which nothing stands twice, and nothing without need."""


def tidied(plan):
    """Return the tidied plan."""
    return tidied_from(plan, len(plan) - 1)


def is_tidy(plan):
    """Return True if a plan is tidy."""
    return same_plans(tidied(plan), plan)


def same_plans(a, b):
    """Return True if two plans have the same nodes, with the same values in them."""
    return repr(a) == repr(b)


def tidied_from(nodes, root):
    """Return the tidied plan of what one of some nodes rests on; each node has inputs before it."""
    alike = first_alike(nodes)
    order = []
    finish(nodes, alike, alike[root], order)
    numbers = {node: number for number, node in enumerate(order)}
    return tuple([(nodes[node][0], tuple([numbers[alike[below]] for below in nodes[node][1]])) for node in order])


def first_alike(nodes):
    """Return for each node the number of the first one that is alike, which may be its own."""
    first = {}
    alike = []
    for number, (operator, inputs) in enumerate(nodes):
        # Python takes True for equal to 1, but does not write them alike.
        place = (repr(operator), tuple([alike[node] for node in inputs]))
        alike.append(first.setdefault(place, number))
    return alike


def finish(nodes, alike, node, order):
    """Add to a list of numbers those of the nodes on which one rests, each of them once, and then its own."""
    for below in nodes[node][1]:
        if alike[below] not in order:
            finish(nodes, alike, alike[below], order)
    order.append(node)
