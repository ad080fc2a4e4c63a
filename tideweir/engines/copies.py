"""Copies of what is handed in and out, so that nothing is shared."""


def copy_of(x):
    """Return x with all lists and dicts in it anew, also those within tuples."""
    if isinstance(x, list):
        return [copy_of(part) for part in x]
    if isinstance(x, tuple):
        return tuple([copy_of(part) for part in x])
    if isinstance(x, dict):
        return {name: copy_of(x[name]) for name in x}
    return x
