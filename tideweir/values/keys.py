"""Keys of rows, and their hashes and groups, which are the same in every run and on every machine."""

from tideweir.values.rows import column_index

GROUPS = 16
SEED = 17
FACTOR = 31
MODULUS = 1000003
BEHIND_A_VALUE = 31


def key_of(row, fields, columns):
    """Return the values of a row in some columns, in their order."""
    return tuple([row[column_index(fields, name)] for name in columns])


def hash_of(values):
    """Return the hash of a list or tuple of values."""
    result = SEED
    for value in values:
        for code in [ord(sign) for sign in writing_of(value)] + [BEHIND_A_VALUE]:
            result = (FACTOR * result + code) % MODULUS
    return result


def writing_of(value):
    """Return the text that stands for a value in a hash; no two values have the same one."""
    if value is None:
        return "n"
    if value is False:
        return "f"
    if value is True:
        return "t"
    if isinstance(value, int):
        return "#" + str(value)
    return '"' + value


def group_of(values):
    """Return the key group of a list or tuple of values."""
    return hash_of(values) % GROUPS
