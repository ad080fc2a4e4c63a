"""Expressions made by chance, and what the document says of them, written down once more in another way."""

FIELDS = (("w", "whole"), ("v", "whole"), ("t", "text"), ("u", "text"), ("f", "flag"), ("g", "flag"))
CONSTANTS = {
    "whole": (None, 0, 1, -1, 2, -3, 7, 40000, 10 ** 9, -10 ** 9),
    "text": (None, "", "a", "ab", "b", "1"),
    "flag": (None, True, False),
}
ROW_VALUES = CONSTANTS


def random_row(numbers):
    """A row that fits the fields."""
    return tuple(numbers.choice(ROW_VALUES[kind]) for _, kind in FIELDS)


def random_tree(numbers, kind, depth):
    """An expression that is of a type for the fields."""
    if depth == 0 or numbers.random() < 0.15:
        if numbers.random() < 0.6:
            return ("column", numbers.choice([name for name, other in FIELDS if other == kind]))
        return ("value", numbers.choice(CONSTANTS[kind]))

    def part(wanted):
        return random_tree(numbers, wanted, depth - 1)

    if numbers.random() < 0.2:
        return ("pick", part("flag"), part(kind), part(kind))
    if kind == "text":
        return ("pick", part("flag"), part("text"), part("text"))
    if kind == "whole":
        if numbers.random() < 0.2:
            return ("length", part("text"))
        return ("binary", numbers.choice("+-*/"), part("whole"), part("whole"))
    shape = numbers.randint(0, 3)
    if shape == 0:
        return ("not", part("flag"))
    if shape == 1:
        return ("null", part(numbers.choice(("flag", "whole", "text"))))
    if shape == 2:
        return ("binary", numbers.choice(("and", "or")), part("flag"), part("flag"))
    wanted = numbers.choice(("flag", "whole", "text"))
    return ("binary", numbers.choice(("==", "<", "<=")), part(wanted), part(wanted))


def value_at(tree, row):
    """The value of an expression at a row, which is a dict here."""
    value = plain_value_at(tree, row)
    if isinstance(value, int) and not isinstance(value, bool) and not -10 ** 9 <= value <= 10 ** 9:
        return None
    return value


def plain_value_at(tree, row):
    """The value before it is looked at whether it is too large."""
    word, *rest = tree
    if word == "column":
        return row[rest[0]]
    if word == "value":
        return rest[0]
    if word == "pick":
        return value_at(rest[1] if value_at(rest[0], row) is True else rest[2], row)
    if word == "null":
        return value_at(rest[0], row) is None
    if word in ("not", "length"):
        value = value_at(rest[0], row)
        if value is None:
            return None
        return len(value) if word == "length" else value is False
    sign, a, b = rest[0], value_at(rest[1], row), value_at(rest[2], row)
    if sign in ("and", "or"):
        strong = sign == "or"
        values = [repr(a), repr(b)]
        return strong if repr(strong) in values else None if "None" in values else not strong
    if a is None or b is None:
        return None
    return two(sign, a, b)


def two(sign, a, b):
    """The value of a sign between two values that are not None, and of one type."""
    if sign == "/":
        if b == 0:
            return None
        below = abs(a) // abs(b)
        if (a < 0) == (b < 0):
            return below
        return -below if below * abs(b) == abs(a) else -below - 1
    table = {"+": lambda: a + b, "-": lambda: a - b, "*": lambda: a * b, "==": lambda: a == b,
             "<": lambda: a < b, "<=": lambda: a <= b}
    return table[sign]()


def names_in(tree):
    """All names of columns in an expression, from left to right, also several times."""
    if tree[0] == "column":
        return [tree[1]]
    return [name for part in tree[1:] if isinstance(part, tuple) for name in names_in(part)]
