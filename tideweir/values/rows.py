"""Values and their types, rows and their fields."""

LARGEST = 10 ** 9
LONGEST = 40
PERCENT_SIGN = 37


def type_of_value(value):
    """Return "flag", "whole" or "text", or None for None, which is of every type."""
    if value is None:
        return None
    # Python's True and False are integers, too: they are asked for first.
    if value is True or value is False:
        return "flag"
    if isinstance(value, int):
        return "whole"
    return "text"


def is_value(x):
    """Return True if a Python object is a value."""
    if x is None or x is True or x is False:
        return True
    if isinstance(x, int):
        return -LARGEST <= x <= LARGEST
    return isinstance(x, str) and is_text(x)


def is_text(string):
    """Return True if a string is short enough and has the signs of a text alone."""
    return len(string) <= LONGEST and all(is_sign(ord(sign)) for sign in string)


def is_sign(code):
    """Return True if a sign with this code may stand in a text."""
    return ord(" ") <= code <= ord("~") and code != PERCENT_SIGN


def fits(row, fields):
    """Return True if a row has as many values as the fields, each of the type at its place."""
    if len(row) != len(fields):
        return False
    return all(type_of_value(value) in (None, wanted) for value, (_, wanted) in zip(row, fields))


def column_index(fields, name):
    """Return the index of the column with this name, or None."""
    for index, (column, _) in enumerate(fields):
        if column == name:
            return index
    return None
