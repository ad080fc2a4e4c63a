"""What the document says of the meaning of plans for logs, written down once more."""

from tests.plain_engine import plain_on_time
from tests.plain_operators import plain_define, plain_sum
from tideweir.plans.plans import fields_of


def plain_source_flow(partitions):
    """The flow of the events on time of a source."""
    return plain_sum([move for entries in partitions for move in plain_on_time(entries)[0]])


def plain_meaning(plan, logs):
    """The meaning of a plan for logs."""
    fields, told = [own for own, _ in fields_of(plan)], []
    for operator, inputs in plan:
        if operator[0] == "source":
            told.append(plain_source_flow(logs[operator[1]]))
        else:
            told.append(plain_define(operator, [fields[k] for k in inputs], [told[k] for k in inputs]))
    return told[-1]


def plain_mark_of_logs(plan, logs):
    """The least mark of the partitions of a plan's sources."""
    return min(max([-1] + [entry[1] for entry in entries if entry[0] == "mark"])
               for operator, _ in plan if operator[0] == "source" for entries in logs[operator[1]])


def up_to(flow, mark):
    """The part of a flow up to a mark."""
    return [move for move in flow if move[0] <= mark]
