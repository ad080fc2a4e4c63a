"""What the document says of witnesses, written down once more, as literally as can be."""

from tests.plain_engine import plain_on_time
from tests.plain_meanings import plain_meaning
from tests.plain_operators import plain_table, same
from tideweir.plans.plans import fields_of


def plain_events(logs):
    """The places of the events on time."""
    return sorted((name, k, index) for name, partitions in logs.items() for k, entries in enumerate(partitions)
                  for index, entry in enumerate(entries)
                  if entry[0] == "event" and index not in plain_on_time(entries)[1])


def plain_only(logs, places):
    """Logs in which only the events at these places are left."""
    return {name: [[entry for index, entry in enumerate(entries)
                    if entry[0] == "mark" or (name, k, index) in places] for k, entries in enumerate(partitions)]
            for name, partitions in logs.items()}


def plain_weight(plan, logs, time, row):
    """The weight with which a row stands."""
    flow = plain_meaning(plan, logs)
    if fields_of(plan)[-1][1] == "table":
        pairs = plain_table(flow, time)
    else:
        pairs = [(other, weight) for t, other, weight in flow if t == time]
    return sum(weight for other, weight in pairs if same(other, row))


def plain_tells(plan, logs, places, time, row):
    """Whether places tell a row."""
    weight = plain_weight(plan, logs, time, row)
    return weight != 0 and plain_weight(plan, plain_only(logs, places), time, row) == weight


class PlainAnswers:
    """The answers of questions up to a time."""

    def __init__(self, plan, logs, time):
        self.plan, self.logs, self.time = plan, logs, time
        self.names = [[name for name, _ in own] for own, _ in fields_of(plan)]

    def of(self, node, asked):
        """The answer of a node that is asked for pairs of a column and a value."""
        for name, value in asked:
            if any(name == other and not same((value,), (more,)) for other, more in asked):
                return set()
        operator, inputs = self.plan[node]
        word = operator[0]
        if word == "source":
            return self.of_source(operator[1], self.names[node], asked)
        if word in ("filter", "distinct"):
            return self.of(inputs[0], asked)
        if word == "map":
            trees = dict(operator[1])
            return self.of(inputs[0], [(trees[name][1], value) for name, value in asked if trees[name][0] == "column"])
        if word in ("group", "top", "window", "first"):
            return self.of(inputs[0], [(name, value) for name, value in asked if name in operator[1]])
        one, other = self.names[inputs[0]], self.names[inputs[1]]
        if word == "union":
            return self.of(inputs[0], asked) | self.of(inputs[1], [(other[one.index(name)], value)
                                                                    for name, value in asked])
        is_left = word in ("near", "asof") and operator[-1] == "left"
        left = [pair for pair in asked if pair[0] in one]
        right = [] if is_left else [pair for pair in asked if pair[0] in other]
        to_right = [(b, value) for a, b in operator[1] for name, value in left if name == a]
        to_left = [(a, value) for a, b in operator[1] for name, value in right if name == b]
        return self.of(inputs[0], left + to_left) | self.of(inputs[1], right + to_right)

    def of_source(self, name, names, asked):
        """The events of a source."""
        found = set()
        for place in plain_events({name: self.logs[name]}):
            _, time, row = self.logs[name][place[1]][place[2]]
            if time <= self.time and all(same((row[names.index(column)],), (value,)) for column, value in asked):
                found.add(place)
        return found


def plain_why(plan, logs, time, row):
    """Why a row stands."""
    if plain_weight(plan, logs, time, row) == 0:
        return None
    names = [name for name, _ in fields_of(plan)[-1][0]]
    return sorted(PlainAnswers(plan, logs, time).of(len(plan) - 1, list(zip(names, row))))


def plain_least_why(plan, logs, time, row):
    """Least why."""
    left = plain_why(plan, logs, time, row)
    while left is not None:
        size = len(left)
        for place in list(left):
            if plain_tells(plan, logs, [other for other in left if other != place], time, row):
                left.remove(place)
        if len(left) == size:
            return left
    return None
