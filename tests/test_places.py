"""Point 81: places of events, and logs in which events are left out."""

import unittest

from tests.plain_witnesses import plain_events, plain_only
from tests.random_graphs import random_logs
from tests.support import ExactCase, generator_of_numbers
from tideweir.errors import InvalidLogs
from tideweir.witnesses.places import events_of, only_these, without_these

A, B, C, D = ("event", 3, ("a", 1)), ("event", 2, ("b", 1)), ("event", 9, ("c", 1)), ("event", 9, ("d", 1))
LOGS = {"t": [[A, ("mark", 3), B, C], [D, ("mark", 1)]], "s": [[], [("mark", 4), C, A]]}


class Events(ExactCase):
    def test_events_on_time(self):
        self.same(events_of(LOGS), [("s", 1, 1), ("t", 0, 0), ("t", 0, 3), ("t", 1, 0)])
        self.leaves_alone(events_of, LOGS)

    def test_none(self):
        self.same(events_of({}), [])
        self.same(events_of({"s": [[], [("mark", 3), A]]}), [])

    def test_the_order(self):
        logs = {name: [[C] * 11] * 2 for name in ("b", "a1", "a_", "a")}
        self.same(events_of(logs), sorted((name, k, index) for name in logs for k in range(2) for index in range(11)))

    def test_at_the_mark(self):
        self.same(events_of({"s": [[("mark", 3), A, ("event", 4, ("a",)), ("mark", 0), ("event", 4, ("b",))]]}),
                  [("s", 0, 2), ("s", 0, 4)])

    def test_by_chance(self):
        for seed in range(60):
            logs = random_logs(generator_of_numbers(seed))
            self.same(events_of(logs), plain_events(logs))


class LeftOut(ExactCase):
    def test_only_these(self):
        self.same(only_these(LOGS, [("s", 1, 1), ("t", 0, 2), ("t", 1, 0)]),
                  {"t": [[("mark", 3), B], [D, ("mark", 1)]], "s": [[], [("mark", 4), C]]})
        self.same(only_these(LOGS, []), {"t": [[("mark", 3)], [("mark", 1)]], "s": [[], [("mark", 4)]]})
        self.leaves_alone(only_these, LOGS, [("t", 0, 0)])

    def test_without_these(self):
        self.same(without_these(LOGS, [("s", 1, 1), ("t", 0, 2), ("t", 1, 0)]),
                  {"t": [[A, ("mark", 3), C], [("mark", 1)]], "s": [[], [("mark", 4), A]]})
        self.same(without_these(LOGS, []), LOGS)
        self.leaves_alone(without_these, LOGS, [("t", 0, 0)])

    def test_places_without_an_event(self):
        for place, told in ((("s", 0, 0), "s, 0, 0"), (("s", 1, 0), "s, 1, 0"), (("s", 1, 3), "s, 1, 3"),
                            (("s", 2, 0), "s, 2, 0"), (("u", 0, 0), "u, 0, 0"), (("t", 0, -1), "t, 0, -1"),
                            (("t", -1, 0), "t, -1, 0"), (("s", -1, 1), "s, -1, 1")):
            for function in (only_these, without_these):
                self.refused(InvalidLogs, f"there is no event at {told}", function, LOGS, [place])
                self.refused(InvalidLogs, f"there is no event at {told}", function, LOGS, [("s", 1, 1), place])

    def test_the_first_such_place(self):
        for function in (only_these, without_these):
            self.refused(InvalidLogs, "there is no event at t, 0, 1", function, LOGS,
                         [("s", 1, 2), ("t", 0, 1), ("t", 0, 4), ("t", 1, 1)])

    def test_by_chance(self):
        for seed in range(60):
            numbers = generator_of_numbers(seed)
            logs = random_logs(numbers)
            places = [(name, k, index) for name in sorted(logs) for k, entries in enumerate(logs[name])
                      for index, entry in enumerate(entries) if entry[0] == "event"]
            chosen = [place for place in places if numbers.random() < 0.5]
            others = [place for place in places if place not in chosen]
            self.same(only_these(logs, chosen), plain_only(logs, chosen))
            self.same(without_these(logs, others), only_these(logs, chosen))
            marks = [entry for name in logs for entries in logs[name] for entry in entries if entry[0] == "mark"]
            left = [entry for own in only_these(logs, []).values() for entries in own for entry in entries]
            self.same(left, marks)


if __name__ == "__main__":
    unittest.main()
