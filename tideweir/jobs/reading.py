"""Partitions of logs as far as they are read."""

from tideweir.flows.flows import flow_of


class Reading:
    """A partition that is read entry by entry, and holds events on time until they are sent."""

    def __init__(self, entries):
        # The list is that of the logs, which grows as entries are appended.
        self.entries = entries
        self.many = 0
        self.reached = -1
        self.held = []

    def is_at_the_end(self):
        """Return True if all entries have been read."""
        return self.many == len(self.entries)

    def read_next(self):
        """Read the next entry."""
        entry = self.entries[self.many]
        self.many += 1
        if entry[0] == "mark":
            self.reached = max(self.reached, entry[1])
        elif entry[1] > self.reached:
            self.held.append((entry[1], entry[2], 1))

    def give_up_to(self, mark):
        """Return the moves that are held with times up to a mark, and hold them no longer."""
        given = [move for move in self.held if move[0] <= mark]
        self.held = [move for move in self.held if move[0] > mark]
        return given

    def noted(self):
        """Return how many entries were read, the mark, and the flow of the events that are held."""
        return (self.many, self.reached, flow_of(self.held))

    def go_on_from(self, many, reached, held):
        """Go on from where another one was."""
        self.many = many
        self.reached = reached
        self.held = list(held)
