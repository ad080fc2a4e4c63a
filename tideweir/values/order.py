"""The order of values, rows and keys."""


def value_order(value):
    """Return a tuple that compares as the value does in the order of values.

    Python itself takes True and 1 for equal, so values are compared by these tuples alone.
    """
    if value is None:
        return (0,)
    if value is False:
        return (1,)
    if value is True:
        return (2,)
    if isinstance(value, int):
        return (3, value)
    return (4, value)


def row_order(row):
    """Return a tuple that compares as the row, or the key, does in the order of rows."""
    # The first number of a value tells how many items it has, so the tuples of the values
    # can stand one behind the other and still meet place by place.
    return tuple([item for value in row for item in value_order(value)])


def same_rows(a, b):
    """Return True if two rows or keys have the same values."""
    return row_order(a) == row_order(b)
