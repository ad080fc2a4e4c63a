"""Expressions as trees: their parts, their columns, and putting others in the place of columns."""


def parts_of(expression):
    """Return the tuple of the expressions that stand directly in an expression."""
    if expression[0] in ("column", "value"):
        return ()
    if expression[0] == "binary":
        return expression[2:]
    return expression[1:]


def columns_of(expression):
    """Return the columns of an expression, each once, in the order of their first place."""
    if expression[0] == "column":
        return [expression[1]]
    names = []
    for part in parts_of(expression):
        names.extend([name for name in columns_of(part) if name not in names])
    return names


def substituted(expression, mapping):
    """Return an expression with those of a dict in the place of its columns with these names."""
    if expression[0] == "column":
        return mapping.get(expression[1], expression)
    parts = parts_of(expression)
    head = expression[:len(expression) - len(parts)]
    return head + tuple([substituted(part, mapping) for part in parts])
