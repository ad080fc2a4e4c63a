"""Audits: whether a flow is the part of a plan's meaning up to a mark."""

from tideweir.flows.flows import part_of, sum_flows, turned
from tideweir.values.order import same_rows
from tideweir.witnesses.reasons import meaning_for


class Breach:
    """A time and a row at which a flow has another weight than it should."""

    def __init__(self, time, row, has, should):
        self.time = time
        self.row = row
        self.has = has
        self.should = should


def audit(plan, logs, flow, mark):
    """Return None if a flow is the part of the meaning up to a mark, otherwise the first Breach."""
    wanted = part_of(meaning_for(plan, logs), -1, mark)
    differences = sum_flows([flow, turned(wanted)])
    if not differences:
        return None
    time, row, _ = differences[0]
    return Breach(time, row, weight_at(flow, time, row), weight_at(wanted, time, row))


def weight_at(flow, time, row):
    """Return the weight of a flow's move at a time with a row, 0 if there is none."""
    return sum([weight for moment, other, weight in flow if moment == time and same_rows(other, row)])
