"""Operators at work, which take their inputs in pieces."""

from tideweir.errors import InvalidState
from tideweir.flows.flows import part_of, sum_flows
from tideweir.flows.logs import THE_END
from tideweir.handles.states import kept_from, kept_of, with_kept
from tideweir.operators.define import output_above


class Handle:
    """An operator that goes on from mark to mark, and tells its output up to there."""

    def __init__(self, operator, fields):
        self._operator = operator
        self._fields = list(fields)
        self._mark = -1
        self._pending = [[] for _ in fields]
        self._kept = kept_of(operator, fields, self._pending, -1)

    @property
    def mark(self):
        """The mark up to which the output has been told."""
        return self._mark

    def put(self, side, flow):
        """Take moves for a side; raise InvalidState if one of them comes too late."""
        if any(time <= self._mark for time, _, _ in flow):
            raise InvalidState("the mark is past")
        self._pending[side] = sum_flows([self._pending[side], flow])

    def advance(self, mark):
        """Go on to a mark, and return the output above the old one; raise InvalidState if the mark is below it."""
        old = self._mark
        if mark < old:
            raise InvalidState("marks never fall")
        pieces = [part_of(flow, old, mark) for flow in self._pending]
        flows = with_kept(self._operator, old, self._kept, pieces)
        told = part_of(output_above(self._operator, self._fields, flows, old), old, mark)
        self._kept = kept_from(self._operator, self._fields, flows, mark)
        self._pending = [part_of(flow, mark, THE_END) for flow in self._pending]
        self._mark = mark
        return told

    def state(self):
        """Return the state: the mark, what is pending, and what is kept."""
        return (self._mark, [list(flow) for flow in self._pending], [list(items) for items in self._kept])

    def fork(self):
        """Return another handle that goes on from the same state."""
        return Handle.resumed(self._operator, self._fields, self.state())

    @classmethod
    def resumed(cls, operator, fields, state):
        """Return a handle that goes on from a state."""
        handle = cls(operator, fields)
        mark, pending, kept = state
        handle._mark = mark
        handle._pending = [list(flow) for flow in pending]
        handle._kept = [list(items) for items in kept]
        return handle
