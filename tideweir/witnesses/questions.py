"""Questions that ask the nodes of a plan for moves with given values, down to the events at the sources."""

from tideweir.operators.checks import sides_of
from tideweir.plans.plans import is_source
from tideweir.values.order import row_order, same_rows
from tideweir.values.rows import column_index
from tideweir.witnesses.places import events_of


class Questions:
    """The questions about moves up to a time, for a plan, the fields of its nodes, and logs.

    What answers them is gathered in found, a dict of places.
    """

    def __init__(self, plan, fields, logs, time):
        self.plan = plan
        self.fields = fields
        self.logs = logs
        self.time = time
        self.on_time = events_of(logs)
        self.asked = {}
        self.found = {}

    def ask(self, node, asked):
        """Ask a node for its moves with values in some columns, a list of pairs; what answers is found."""
        question = (node, tuple([name for name, _ in asked]), row_order([value for _, value in asked]))
        # A node may be reached in many ways; the same question finds nothing more.
        if question in self.asked or is_contrary(asked):
            return
        self.asked[question] = True
        operator, inputs = self.plan[node]
        if is_source(operator):
            self.answer_of_source(operator, asked)
            return
        for side in range(sides_of(operator)):
            fields = [self.fields[below] for below in inputs]
            self.ask(inputs[side], asked_of_side(operator, fields, side, asked))

    def answer_of_source(self, source, asked):
        """Find the events on time of a source that have the values."""
        _, name, fields = source
        for place in self.on_time:
            if place[0] == name:
                _, time, row = self.logs[name][place[1]][place[2]]
                if time <= self.time and has_values(row, fields, asked):
                    self.found[place] = True


def is_contrary(asked):
    """Return True if a column is asked for two values that are not the same."""
    values = {}
    for name, value in asked:
        if not same_rows((values.setdefault(name, value),), (value,)):
            return True
    return False


def has_values(row, fields, asked):
    """Return True if a row has all values that are asked for."""
    return all(same_rows((row[column_index(fields, name)],), (value,)) for name, value in asked)


def asked_of_side(operator, fields, side, asked):
    """Return the pairs of a column and a value for which an input is asked, for the fields of all inputs."""
    word = operator[0]
    if word in ("filter", "distinct"):
        return asked
    if word == "map":
        return [(expression[1], value) for name, expression in operator[1] for column, value in asked
                if name == column and expression[0] == "column"]
    if word == "union":
        return [(fields[side][column_index(fields[0], name)][0], value) for name, value in asked]
    if word in ("near", "asof", "join"):
        return asked_of_pair(operator, fields, side, asked)
    return [(name, value) for name, value in asked if name in operator[1]]


def asked_of_pair(operator, fields, side, asked):
    """Return the same for a near, an asof or a join."""
    own = [[], []]
    for name, value in asked:
        if column_index(fields[0], name) is not None:
            own[0].append((name, value))
        elif operator[-1] != "left":
            # With "left" the value may be the None that stands there for want of a partner.
            own[1].append((name, value))
    other = 1 - side
    partners = {pair[other]: pair[side] for pair in operator[1]}
    return own[side] + [(partners[name], value) for name, value in own[other] if name in partners]
