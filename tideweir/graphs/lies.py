"""Where rows lie in a graph: what is known of the task at which a row is."""

from tideweir.values.rows import column_index


def lie_of_side(stages, edge, lies_out):
    """Return the lie of what comes into a stage by an edge, for the lies of what comes out of the stages ahead."""
    origin, target, _, ship = edge
    if stages[target][1] == 1:
        return "all"
    if isinstance(ship, tuple):
        return ship
    lie = lies_out[origin]
    if ship == "forward" and isinstance(lie, tuple) and stages[origin][2] == stages[target][2]:
        return lie
    return None


def lie_of_output(stage, fields, lies):
    """Return the lie of what comes out of a stage, for the fields and the lies of its sides."""
    operator, parallel, _ = stage
    word = operator[0]
    if word == "sink":
        return None
    if parallel == 1:
        return "all"
    if word == "source":
        return None
    if word == "map":
        return lie_behind_map(operator[1], lies[0])
    if word == "union":
        return lies[0] if lie_alike(fields, lies) else None
    return lies[0]


def lie_behind_map(to, lie):
    """Return the lie behind a map, under the names by which it hands on the columns of the lie."""
    if not isinstance(lie, tuple):
        return None
    names = [name_handed_on(to, column) for column in lie]
    return None if None in names else tuple(names)


def name_handed_on(to, column):
    """Return the first name under which a map hands on a column as it is, or None."""
    for name, expression in to:
        if expression == ("column", column):
            return name
    return None


def lie_alike(fields, lies):
    """Return True if the lies of two sides are columns that stand at the same places of their fields."""
    if not all(isinstance(lie, tuple) for lie in lies):
        return False
    places = [[column_index(own, name) for name in lie] for own, lie in zip(fields, lies)]
    return places[0] == places[1]


def places_of_lie(lie, columns):
    """Return the list of the places at which the columns of a lie stand among others.

    Return None if it is no tuple of one or more of them, each of them once.
    """
    if not isinstance(lie, tuple) or not lie:
        return None
    places = []
    for name in lie:
        if name not in columns or columns.index(name) in places:
            return None
        places.append(columns.index(name))
    return places


def columns_at(columns, places):
    """Return the tuple of the columns at some places."""
    return tuple([columns[place] for place in places])
