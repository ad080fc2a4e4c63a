"""Operators and flows made by chance, of small numbers, so that much falls together."""

from tests.plain_operators import plain_sum

LEFT = (("a", "whole"), ("b", "text"), ("c", "flag"))
RIGHT = (("d", "whole"), ("e", "text"), ("f", "flag"))
VALUES_OF = {"whole": (None, 0, 1, 2, 3), "text": (None, "", "x", "y"), "flag": (None, False, True)}
WORDS = ("filter", "map", "union", "distinct", "group", "top", "window", "near", "asof", "join", "first")
EVENT_SIDES = {"window": (0,), "near": (0, 1), "asof": (0,), "first": (0,)}


def random_row_of(numbers, fields, few=5):
    """A row that fits fields; the values are the first few."""
    return tuple(numbers.choice(VALUES_OF[kind][:few]) for _, kind in fields)


def random_flow_of(numbers, fields, kind, many, end=24, few=5):
    """A lawful flow of a kind, with times below an end."""
    moves, present = [], []
    for time in sorted(numbers.randrange(end) for _ in range(many)):
        if kind == "table" and present and numbers.random() < 0.4:
            moves.append((time, present.pop(numbers.randrange(len(present))), -1))
        else:
            row, weight = random_row_of(numbers, fields, few), numbers.choice((1, 1, 2, 3))
            moves.append((time, row, weight))
            present += [row] * weight
    return plain_sum(moves)


def random_aggs(numbers, fields, words):
    """Aggregates of columns that have their types."""
    aggs = []
    for name in ("m", "n", "o", "p")[:numbers.randint(1, 4 if len(fields) < 3 else 2)]:
        word = numbers.choice(words)
        columns = [column for column, kind in fields if kind == "whole" or word not in ("sum", "mean")]
        column = None if word == "count" and numbers.random() < 0.5 else numbers.choice(columns)
        aggs.append((name, word, column))
    return tuple(aggs)


def random_on(numbers, fields):
    """Pairs of columns of the same type."""
    pairs = [(a, b) for a, kind in fields[0] for b, other in fields[1] if kind == other]
    on = []
    for a, b in numbers.sample(pairs, len(pairs)):
        if len(on) < 2 and a not in [x for x, _ in on] and b not in [y for _, y in on]:
            on.append((a, b))
    return tuple(on[:numbers.randint(1, 2)])


def random_where(numbers, fields):
    """An expression that is a flag."""
    name, kind = numbers.choice(fields)
    test = ("binary", numbers.choice(("==", "<", "<=")), ("column", name), ("value", numbers.choice(VALUES_OF[kind])))
    other = ("null", ("column", numbers.choice(fields)[0]))
    return numbers.choice((test, ("not", test), other, ("binary", "or", test, other),
                           ("binary", "and", test, ("not", other))))


def random_to(numbers, fields):
    """Pairs for a map."""
    to = []
    for name in ("p", "q", "r")[:numbers.randint(1, 3)]:
        column, kind = numbers.choice(fields)
        tree = {"whole": ("binary", "/", ("column", column), ("value", 2)),
                "text": ("length", ("column", column)), "flag": ("not", ("column", column))}[kind]
        to.append((name, numbers.choice((("column", column), tree, ("value", None)))))
    return tuple(to)


def random_keys(numbers, fields, least=0):
    """Some columns, in any order."""
    names = [name for name, _ in fields]
    return tuple(numbers.sample(names, numbers.randint(least, min(2, len(names)))))


def random_window(numbers):
    """A window of some kind."""
    slide = numbers.randint(1, 5)
    return numbers.choice((("tumble", numbers.randint(1, 9)), ("hop", numbers.randint(slide, 3 * slide), slide),
                           ("session", numbers.randint(1, 4))))


def random_operator(numbers, word, fields):
    """An operator that checks for these fields."""
    first = fields[0]
    if word == "filter":
        return (word, random_where(numbers, first))
    if word == "map":
        return (word, random_to(numbers, first))
    if word in ("union", "distinct"):
        return (word,)
    if word == "group":
        return (word, random_keys(numbers, first), random_aggs(numbers, first, ("count", "sum", "least", "most",
                                                                               "mean")))
    if word == "top":
        by = tuple((name, numbers.choice(("up", "down"))) for name in random_keys(numbers, first, 1))
        return (word, random_keys(numbers, first), by, numbers.randint(1, 4))
    if word == "window":
        words = ("count", "sum", "least", "most", "mean", "first", "last")
        return (word, random_keys(numbers, first), random_window(numbers), random_aggs(numbers, first, words))
    if word == "first":
        return (word, random_keys(numbers, first, 1), numbers.randint(1, 9))
    on, keep = random_on(numbers, fields), numbers.choice(("inner", "left"))
    if word == "near":
        low = numbers.randint(-7, 5)
        return (word, on, low, numbers.randint(low, 7), keep)
    return (word, on, keep) if word == "asof" else (word, on)


def sides_of_word(word):
    """How many sides the operators of a word have."""
    return 2 if word in ("union", "near", "asof", "join") else 1


def random_case(numbers, word, many=12, few=5):
    """An operator, the fields of its sides and flows for them."""
    left, right = LEFT[:numbers.randint(1, 3)], RIGHT[:numbers.randint(1, 3)]
    if word == "union":
        right = RIGHT[:len(left)]
    fields = [left, right][:sides_of_word(word)]
    flows = []
    for side, own in enumerate(fields):
        kind = "events" if side in EVENT_SIDES.get(word, ()) else numbers.choice(("events", "table"))
        flows.append(random_flow_of(numbers, own, kind, numbers.randint(0, many), few=few))
    return random_operator(numbers, word, fields), fields, flows
