"""Tasks of operators, which get their inputs in parcels through several channels."""

from tideweir.errors import InvalidParcel
from tideweir.handles.handle import Handle


class Task:
    """An operator with channels, each of which has a mark of its own."""

    def __init__(self, operator, fields, sides):
        self._operator = operator
        self._fields = list(fields)
        self._sides = list(sides)
        self._marks = [-1 for _ in sides]
        self._handle = Handle(operator, fields)

    @property
    def mark(self):
        """The least of the channels' marks."""
        return min(self._marks)

    @property
    def marks(self):
        """The list of the marks of the channels."""
        return list(self._marks)

    def put(self, channel, parcel):
        """Put a parcel into a channel; raise InvalidParcel if it is refused.

        Return the parcel of the task's mark and what is told if the mark rises, otherwise None.
        """
        mark, moves = parcel
        self._check(channel, mark, moves)
        before = self.mark
        self._marks[channel] = mark
        self._handle.put(self._sides[channel], moves)
        if self.mark == before:
            return None
        return (self.mark, self._handle.advance(self.mark))

    def _check(self, channel, mark, moves):
        reached = self._marks[channel]
        if mark <= reached:
            raise InvalidParcel("parcels never go back")
        if any(time <= reached for time, _, _ in moves):
            raise InvalidParcel("the mark is past")
        if any(time > mark for time, _, _ in moves):
            raise InvalidParcel("the parcel is ahead of itself")

    def state(self):
        """Return the state of the task: the marks of its channels, and the state of its operator."""
        return (list(self._marks), self._handle.state())

    def fork(self):
        """Return another task that goes on from the same state."""
        return Task.resumed(self._operator, self._fields, self._sides, self.state())

    @classmethod
    def resumed(cls, operator, fields, sides, state):
        """Return a task that goes on from the state of a task."""
        marks, inner = state
        task = cls(operator, fields, sides)
        task._marks = list(marks)
        task._handle = Handle.resumed(operator, fields, inner)
        return task
