"""Aggregates: what is told of several rows together."""

from tideweir.values.order import value_order
from tideweir.values.rows import LARGEST, column_index


def aggregate(word, values):
    """Return the aggregate of a list of pairs of a value and a weight above 0."""
    if word in ("first", "last"):
        # Here None counts as a value, too.
        return values[0 if word == "first" else -1][0]
    known = [(value, weight) for value, weight in values if value is not None]
    count = sum([weight for _, weight in known])
    if word == "count":
        return bounded(count)
    if not known:
        return None
    if word in ("least", "most"):
        ordered = sorted([value for value, _ in known], key=value_order)
        return ordered[0 if word == "least" else -1]
    total = sum([value * weight for value, weight in known])
    return bounded(total if word == "sum" else total // count)


def bounded(number):
    """Return a number, or None in the place of one that is no value."""
    return number if abs(number) <= LARGEST else None


def aggregated(aggs, fields, pairs):
    """Return the tuple of the aggregates of a list of pairs of a row and a weight above 0."""
    told = []
    for _, word, column in aggs:
        index = None if column is None else column_index(fields, column)
        told.append(aggregate(word, [(0 if index is None else row[index], weight) for row, weight in pairs]))
    return tuple(told)
