"""The types of expressions."""

from tideweir.errors import InvalidOperator
from tideweir.expressions.trees import parts_of
from tideweir.values.rows import column_index, type_of_value

# Of each kind of expression that always has the same type: the type that all of its parts
# have to be of (None where any will do, as long as it is the same), and its own type.
WANTED_AND_OWN = {
    "not": ("flag", "flag"),
    "null": (None, "flag"),
    "length": ("text", "whole"),
    "+": ("whole", "whole"),
    "-": ("whole", "whole"),
    "*": ("whole", "whole"),
    "/": ("whole", "whole"),
    "==": (None, "flag"),
    "<": (None, "flag"),
    "<=": (None, "flag"),
    "and": ("flag", "flag"),
    "or": ("flag", "flag"),
}


def type_of(expression, fields):
    """Return the type of an expression for fields, None for every type; raise InvalidOperator if it has none."""
    word = expression[0]
    if word == "column":
        return type_of_column(expression[1], fields)
    if word == "value":
        return type_of_value(expression[1])
    types = [type_of(part, fields) for part in parts_of(expression)]
    if word == "pick":
        common_type(["flag", types[0]])
        return common_type(types[1:])
    wanted, own = WANTED_AND_OWN[expression[1] if word == "binary" else word]
    common_type([wanted] + types)
    return own


def type_of_column(name, fields):
    """Return the type of a column; raise InvalidOperator if the fields do not have it."""
    index = column_index(fields, name)
    if index is None:
        raise InvalidOperator(f"there is no column {name}")
    return fields[index][1]


def common_type(types):
    """Return the one type of which all of these are, None for every type; raise InvalidOperator if they differ."""
    found = None
    for kind in types:
        if kind is not None and found is not None and kind != found:
            raise InvalidOperator("types differ")
        found = kind if found is None else found
    return found
