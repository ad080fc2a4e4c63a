"""The checks of operators: the fields and the kind of what comes out, and the faults for which one is refused."""

from tideweir.errors import InvalidOperator
from tideweir.expressions.checking import type_of
from tideweir.values.rows import column_index

# The sides that have to be events.
EVENT_SIDES = {"window": (0,), "near": (0, 1), "asof": (0,), "first": (0,)}
OF_TWO_SIDES = ("union", "near", "asof", "join")
WHOLE_WORDS = ("count", "sum", "mean")
MOST_COLUMNS = 8


def sides_of(operator):
    """Return how many sides an operator has, 1 or 2."""
    return 2 if operator[0] in OF_TWO_SIDES else 1


def check_operator(operator, inputs):
    """Return the output fields and the kind of an operator for its inputs; raise InvalidOperator if it is refused."""
    fields = [of_side for of_side, _ in inputs]
    kinds = [kind for _, kind in inputs]
    for side, name in columns_named(operator):
        if column_index(fields[side], name) is None:
            raise InvalidOperator(f"there is no column {name}")
    types = [type_of(expression, fields[0]) for expression in expressions_of(operator)]
    if not are_types_right(operator, fields, types):
        raise InvalidOperator("types differ")
    if any(kinds[side] != "events" for side in EVENT_SIDES.get(operator[0], ())):
        raise InvalidOperator("events are wanted")
    output = output_fields(operator, fields, types)
    check_names(output)
    return output, output_kind(operator, kinds)


def columns_named(operator):
    """Return the pairs of a side and a column that an operator names, in the order in which they are looked for."""
    word = operator[0]
    if word in ("near", "asof", "join"):
        return [(side, name) for pair in operator[1] for side, name in enumerate(pair)]
    names = []
    if word in ("group", "top", "window", "first"):
        names.extend(operator[1])
    if word == "top":
        names.extend([name for name, _ in operator[2]])
    names.extend([name for _, _, name in aggregates_of(operator) if name is not None])
    return [(0, name) for name in names]


def aggregates_of(operator):
    """Return the tuple of the aggregates of an operator, which is empty for most."""
    return operator[-1] if operator[0] in ("group", "window") else ()


def expressions_of(operator):
    """Return the list of the expressions in an operator."""
    if operator[0] == "filter":
        return [operator[1]]
    if operator[0] == "map":
        return [expression for _, expression in operator[1]]
    return []


def are_types_right(operator, fields, types):
    """Return True if the types of columns, and those of the expressions, are such as an operator wants."""
    word = operator[0]
    if word == "filter":
        return types[0] in ("flag", None)
    if word == "union":
        return [kind for _, kind in fields[0]] == [kind for _, kind in fields[1]]
    if word in ("near", "asof", "join"):
        return all(type_at(fields[0], a) == type_at(fields[1], b) for a, b in operator[1])
    summed = [name for _, what, name in aggregates_of(operator) if what in ("sum", "mean")]
    return all(type_at(fields[0], name) == "whole" for name in summed)


def type_at(fields, name):
    """Return the type of a column that the fields have."""
    return fields[column_index(fields, name)][1]


def output_fields(operator, fields, types):
    """Return the fields of what comes out, which may be too many, or have a name twice."""
    word = operator[0]
    if word == "map":
        return tuple([(name, kind or "flag") for (name, _), kind in zip(operator[1], types)])
    if word in ("near", "asof", "join"):
        return fields[0] + fields[1]
    if word not in ("group", "window"):
        return fields[0]
    keys = [(name, type_at(fields[0], name)) for name in operator[1]]
    bounds = [("start", "whole"), ("end", "whole")] if word == "window" else []
    told = [(name, type_of_aggregate(what, column, fields[0])) for name, what, column in operator[-1]]
    return tuple(keys + bounds + told)


def type_of_aggregate(word, column, fields):
    """Return the type of an aggregate of a column."""
    return "whole" if word in WHOLE_WORDS else type_at(fields, column)


def output_kind(operator, kinds):
    """Return the kind of what comes out of sides of these kinds."""
    word = operator[0]
    if word in ("filter", "map"):
        return kinds[0]
    if word == "union":
        return "events" if kinds == ["events", "events"] else "table"
    return "events" if word in EVENT_SIDES else "table"


def check_names(fields):
    """Return None if fields have no name twice and are not too many; otherwise raise InvalidOperator."""
    before = []
    for name, _ in fields:
        if name in before:
            raise InvalidOperator(f"{name} is there twice")
        before.append(name)
    if len(fields) > MOST_COLUMNS:
        raise InvalidOperator("too many columns")
