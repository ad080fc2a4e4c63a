"""What the document says of operators, written down once more, as literally and as slowly as can be."""

from functools import cmp_to_key

from tests.random_trees import value_at
from tests.support import is_ahead, is_row_ahead

MOST = 10 ** 9


def row_key(ahead):
    """A key for sorting by one of the orders."""
    return cmp_to_key(lambda a, b: -1 if ahead(a, b) else 1 if ahead(b, a) else 0)


BY_VALUE = row_key(is_ahead)
BY_ROW = row_key(is_row_ahead)


def plain_sum(moves):
    """The flow of moves."""
    weights = {}
    for time, row, weight in moves:
        place = (time, repr(row))
        weights[place] = (row, weights.get(place, (row, 0))[1] + weight)
    found = [(time, row, weight) for (time, _), (row, weight) in weights.items() if weight != 0]
    return sorted(found, key=lambda move: (move[0], BY_ROW(move[1])))


def plain_table(flow, time):
    """The pairs of the table of a flow at a time."""
    return [(row, weight) for _, row, weight in plain_sum([(0, row, weight) for t, row, weight in flow if t <= time])]


def plain_changes(times, table):
    """The changes of a table that is told by a function of the time."""
    moves, before = [], []
    for time in sorted(set(times)):
        now = table(time)
        moves += [(time, row, weight) for row, weight in now] + [(time, row, -weight) for row, weight in before]
        before = now
    return plain_sum(moves)


def as_dict(row, fields):
    """The values of a row by their columns."""
    return {name: value for (name, _), value in zip(fields, row)}


def plain_key(row, fields, columns):
    """The values of a row in some columns."""
    return tuple(as_dict(row, fields)[name] for name in columns)


def same(a, b):
    """Whether two rows or keys are the same."""
    return repr(a) == repr(b)


def keys_of(rows, fields, columns):
    """The different keys of rows."""
    return list({repr(plain_key(row, fields, columns)): plain_key(row, fields, columns) for row in rows}.values())


def plain_aggregate(word, values):
    """An aggregate of values that are told as often as their weights say."""
    every = [value for value, weight in values for _ in range(weight)]
    known = sorted([value for value in every if value is not None], key=BY_VALUE)
    if word in ("first", "last"):
        return every[0] if word == "first" else every[-1]
    if word == "count":
        return plain_bound(len(known))
    if not known:
        return None
    if word in ("least", "most"):
        return known[0] if word == "least" else known[-1]
    if word == "sum":
        return plain_bound(sum(known))
    return plain_bound((sum(known) - sum(known) % len(known)) // len(known))


def plain_bound(number):
    """A number, or None beyond the bounds."""
    return number if -MOST <= number <= MOST else None


def plain_aggregates(aggs, fields, pairs):
    """The aggregates of rows with weights."""
    return tuple(plain_aggregate(word, [(0 if column is None else as_dict(row, fields)[column], weight)
                                        for row, weight in pairs]) for _, word, column in aggs)


def plain_top(operator, fields, rows):
    """The first rows of one key, told as often as they stand among them."""
    def ahead(a, b):
        one, other = as_dict(a, fields), as_dict(b, fields)
        for name, way in operator[2]:
            x, y = (one[name], other[name]) if way == "up" else (other[name], one[name])
            if is_ahead(x, y) or is_ahead(y, x):
                return is_ahead(x, y)
        return is_row_ahead(a, b)

    return sorted(rows, key=row_key(ahead))[:operator[3]]


def plain_windows(window, times):
    """The windows in which times lie."""
    if window[0] == "session":
        found = []
        for time in sorted(times):
            if found and time - found[-1][1] < window[1]:
                found[-1][1] = time
            else:
                found.append([time, time])
        return [(a, b + window[1]) for a, b in found]
    size, slide = window[1], window[-1]
    begins = [a for a in range(min(times, default=0) - size, max(times, default=0) + 1) if a % slide == 0]
    return [(a, a + size) for a in begins if any(a <= time < a + size for time in times)]


def plain_define(operator, fields, flows):
    """The output of an operator."""
    word = operator[0]
    if word == "filter":
        return [move for move in flows[0] if value_at(operator[1], as_dict(move[1], fields[0])) is True]
    if word == "map":
        return plain_sum([(time, tuple(value_at(tree, as_dict(row, fields[0])) for _, tree in operator[1]), weight)
                          for time, row, weight in flows[0]])
    if word == "union":
        return plain_sum(flows[0] + flows[1])
    if word in ("distinct", "group", "top", "join"):
        times = [time for flow in flows for time, _, _ in flow]
        return plain_changes(times, lambda time: plain_told(operator, fields, [plain_table(flow, time)
                                                                              for flow in flows]))
    moves = {"window": windowed, "near": nearby, "asof": as_of, "first": firsts}[word](operator, fields, flows)
    return plain_sum(moves)


def plain_told(operator, fields, tables):
    """The table that a distinct, group, top or join makes of its sides' tables."""
    word, table = operator[0], tables[0]
    if word == "distinct":
        return [(row, 1) for row, weight in table if weight > 0]
    if word == "join":
        return [(row + other, weight * more) for row, weight in table for other, more in tables[1]
                if agree(operator[1], fields, row, other)]
    told = []
    for key in keys_of([row for row, _ in table], fields[0], operator[1]):
        mine = [(row, weight) for row, weight in table if same(plain_key(row, fields[0], operator[1]), key)]
        if word == "group":
            told.append((key + plain_aggregates(operator[2], fields[0], mine), 1))
        else:
            told += [(row, 1) for row in plain_top(operator, fields[0], [row for row, weight in mine
                                                                        for _ in range(weight)])]
    return told


def agree(on, fields, row, other):
    """Whether rows of two sides have the same keys."""
    return same(plain_key(row, fields[0], [a for a, _ in on]), plain_key(other, fields[1], [b for _, b in on]))


def windowed(operator, fields, flows):
    """The moves of a window."""
    _, keys, window, aggs = operator
    for key in keys_of([row for _, row, _ in flows[0]], fields[0], keys):
        mine = [move for move in flows[0] if same(plain_key(move[1], fields[0], keys), key)]
        for a, b in plain_windows(window, [move[0] for move in mine]):
            pairs = [(row, weight) for time, row, weight in mine if a <= time < b]
            yield (b - 1, key + (a, b) + plain_aggregates(aggs, fields[0], pairs), 1)


def nearby(operator, fields, flows):
    """The moves of a near."""
    _, on, low, high, keep = operator
    for tl, row, weight in flows[0]:
        found = [move for move in flows[1] if agree(on, fields, row, move[1]) and tl + low <= move[0] <= tl + high]
        for tr, other, more in found:
            yield (tr if tr > tl else tl, row + other, weight * more)
        if keep == "left" and not found:
            yield (tl if high < 0 else tl + high, row + tuple(None for _ in fields[1]), weight)


def as_of(operator, fields, flows):
    """The moves of an asof."""
    _, on, keep = operator
    for time, row, weight in flows[0]:
        found = [pair for pair in plain_table(flows[1], time) if agree(on, fields, row, pair[0])]
        for other, more in found:
            yield (time, row + other, weight * more)
        if keep == "left" and not found:
            yield (time, row + tuple(None for _ in fields[1]), weight)


def firsts(operator, fields, flows):
    """The moves of a first."""
    out = []
    for time, row, _ in flows[0]:
        key = plain_key(row, fields[0], operator[1])
        if not any(same(key, plain_key(other, fields[0], operator[1])) and t > time - operator[2]
                   for t, other, _ in out):
            out.append((time, row, 1))
    return out
