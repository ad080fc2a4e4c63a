"""Points 16, 17 and 18: entries, partitions, marks, late events and logs."""

import unittest

from tests.support import ExactCase, generator_of_numbers
from tideweir.errors import InvalidLogs
from tideweir.flows.flows import part_of, sum_flows
from tideweir.flows.logs import (THE_END, check_logs, flow_of_partition, flow_of_source, late_indexes, mark_behind,
                                 mark_of_source)

FIELDS = (("a", "whole"), ("b", "text"))


def event(time, *row):
    return ("event", time, row)


def mark(number):
    return ("mark", number)


def random_entries(numbers, many):
    """Events and marks of few times, marks also falling."""
    entries = []
    for _ in range(many):
        if numbers.random() < 0.3:
            entries.append(mark(numbers.choice((0, 1, 3, 5, 7))))
        else:
            entries.append(event(numbers.randint(0, 9), numbers.choice((1, True, 0, None, "a"))))
    return entries


class Marks(ExactCase):
    def test_the_end(self):
        self.same(THE_END, 1000000)
        self.same(mark_behind([mark(5), mark(THE_END)]), 1000000)
        self.same(mark_behind([mark(THE_END), mark(5)]), 1000000)

    def test_none_at_all(self):
        self.same(mark_behind([]), -1)
        self.same(mark_behind([event(7, 1), event(9, 1)]), -1)

    def test_marks_that_fall_or_stand_twice(self):
        self.same(mark_behind([mark(0)]), 0)
        self.same(mark_behind([mark(5), mark(3)]), 5)
        self.same(mark_behind([mark(3), event(900, 1), mark(5)]), 5)
        self.same(mark_behind([mark(5), mark(5), event(2, 1)]), 5)
        self.same(mark_behind([mark(4), mark(9), mark(0), mark(8)]), 9)
        self.same(mark_behind([mark(9), mark(10)]), 10)

    def test_of_a_source_it_is_the_least(self):
        one, other, empty = [mark(5), event(9, 1)], [event(1, 1), mark(8), mark(2)], []
        self.same(mark_of_source([one]), 5)
        self.same(mark_of_source([one, other]), 5)
        self.same(mark_of_source([other, one]), 5)
        self.same(mark_of_source([other]), 8)
        self.same(mark_of_source([one, empty, other]), -1)
        self.same(mark_of_source([empty]), -1)
        self.same(mark_of_source([[mark(THE_END)], [mark(THE_END)]]), 1000000)
        self.same(mark_of_source([[mark(THE_END)], [mark(0)]]), 0)


class Late(ExactCase):
    def test_at_the_mark_and_one_above_it(self):
        self.same(late_indexes([mark(5), event(5, 1), event(6, 1), event(4, 1)]), [1, 3])
        self.same(late_indexes([mark(0), event(0, 1), event(1, 1)]), [1])

    def test_without_a_mark_none_is_late(self):
        self.same(late_indexes([]), [])
        self.same(late_indexes([event(0, 1), event(9, 1), event(0, 1)]), [])
        self.same(late_indexes([mark(7)]), [])

    def test_a_mark_that_falls_changes_nothing(self):
        self.same(late_indexes([mark(5), mark(2), event(3, 1), event(5, 1), event(6, 1)]), [2, 3])
        self.same(late_indexes([mark(5), mark(5), event(6, 1), mark(6), event(6, 1)]), [4])

    def test_marks_behind_an_event_do_not_matter(self):
        self.same(late_indexes([event(3, 1), mark(5), event(3, 1), event(7, 1), mark(9)]), [2])

    def test_behind_the_end_all_are_late(self):
        self.same(late_indexes([event(900000, 1), mark(THE_END), event(900000, 1), event(0, 2)]), [2, 3])

    def test_it_does_not_depend_on_what_stands_behind(self):
        numbers = generator_of_numbers(31)
        for _ in range(40):
            entries = random_entries(numbers, 20)
            late = late_indexes(entries)
            for k in range(21):
                self.same(late_indexes(entries[:k]), [index for index in late if index < k])
            for index, entry in enumerate(entries):
                if entry[0] == "event":
                    self.assertEqual(index in late, entry[1] <= mark_behind(entries[:index]))
                else:
                    self.assertNotIn(index, late)


class Flows(ExactCase):
    def test_of_a_partition(self):
        entries = [event(7, "b"), event(3, 1), mark(3), event(3, 1), event(4, True), event(4, 1), mark(9), event(9, 2)]
        self.same(flow_of_partition(entries), [(3, (1,), 1), (4, (True,), 1), (4, (1,), 1), (7, ("b",), 1)])

    def test_an_event_twice_in_a_partition(self):
        self.same(flow_of_partition([event(3, 1, "a"), event(3, 1, "a")]), [(3, (1, "a"), 2)])
        self.same(flow_of_partition([event(3, 1), event(3, True), event(3, 1)]), [(3, (True,), 1), (3, (1,), 2)])
        self.same(flow_of_partition([event(3, 1), mark(3), event(3, 1)]), [(3, (1,), 1)])

    def test_of_nothing(self):
        self.same(flow_of_partition([]), [])
        self.same(flow_of_partition([mark(4), mark(THE_END)]), [])
        self.same(flow_of_partition([mark(4), event(4, 1)]), [])
        self.same(flow_of_source([[]]), [])

    def test_times_at_the_bounds(self):
        self.same(flow_of_partition([event(900000, 1), event(0, 1)]), [(0, (1,), 1), (900000, (1,), 1)])

    def test_of_several_partitions_in_any_order(self):
        one = [event(5, 1), mark(6), event(2, "late")]
        other = [event(2, 1), event(5, 1), event(5, 0)]
        wanted = [(2, (1,), 1), (5, (0,), 1), (5, (1,), 2)]
        self.same(flow_of_source([one, other]), wanted)
        self.same(flow_of_source([other, one]), wanted)
        self.same(flow_of_source([one, [], other, []]), wanted)
        self.same(flow_of_source([one]), [(5, (1,), 1)])
        self.same(flow_of_source([[], one]), [(5, (1,), 1)])

    def test_each_partition_has_its_own_mark(self):
        self.same(flow_of_source([[mark(9)], [event(3, 1)]]), [(3, (1,), 1)])
        self.same(flow_of_source([[event(3, 1)], [mark(9), event(3, 1)]]), [(3, (1,), 1)])

    def test_of_a_source_it_is_the_sum(self):
        numbers = generator_of_numbers(32)
        for _ in range(40):
            partitions = [random_entries(numbers, numbers.randint(0, 12)) for _ in range(numbers.randint(1, 4))]
            wanted = sum_flows([flow_of_partition(entries) for entries in partitions])
            self.same(flow_of_source(partitions), wanted)
            numbers.shuffle(partitions)
            self.same(flow_of_source(partitions), wanted)
            total = sum(weight for _, _, weight in wanted)
            late = sum(len(late_indexes(entries)) for entries in partitions)
            events = sum(entry[0] == "event" for entries in partitions for entry in entries)
            self.assertEqual(total, events - late)

    def test_entries_appended_behind_a_mark(self):
        numbers = generator_of_numbers(33)
        for _ in range(60):
            ahead, behind = random_entries(numbers, 8), random_entries(numbers, 8)
            reached = mark_behind(ahead)
            self.same(part_of(flow_of_partition(ahead + behind), -1, reached),
                      part_of(flow_of_partition(ahead), -1, reached))
            self.assertEqual(mark_behind(ahead + behind), max(reached, mark_behind(behind)))

    def test_arguments_are_left_alone(self):
        entries = [event(7, "b"), event(3, 1), mark(3), event(3, 1), event(4, 1)]
        self.leaves_alone(mark_behind, list(entries))
        self.leaves_alone(late_indexes, list(entries))
        self.leaves_alone(flow_of_partition, list(entries))
        self.leaves_alone(flow_of_source, [list(entries), []])
        self.leaves_alone(flow_of_source, [list(entries)])
        self.leaves_alone(mark_of_source, [list(entries), [mark(1)]])


class CheckLogs(ExactCase):
    RIGHT = [[event(1, 1, "a"), mark(5), event(3, None, None)], []]
    WRONG = [[event(1, 1, "a")], [mark(2), event(4, 1, 1)]]

    def test_logs_that_are_right(self):
        self.assertIs(check_logs({}, {}), None)
        self.assertIs(check_logs({"s": self.RIGHT}, {"s": FIELDS}), None)
        self.assertIs(check_logs({"s": [[]], "t": [[mark(3)], [event(1, True)]]},
                                 {"t": (("f", "flag"),), "s": FIELDS}), None)

    def test_other_sources_in_the_logs_do_not_matter(self):
        self.assertIs(check_logs({"s": self.RIGHT, "other": self.WRONG}, {"s": FIELDS}), None)
        self.assertIs(check_logs({"other": self.WRONG}, {}), None)

    def test_a_source_that_is_not_there(self):
        self.refused(InvalidLogs, "there is no source t", check_logs, {"s": self.RIGHT}, {"s": FIELDS, "t": FIELDS})
        self.refused(InvalidLogs, "there is no source s", check_logs, {}, {"s": FIELDS})
        self.refused(InvalidLogs, "there is no source b", check_logs, {}, {"b": FIELDS, "a": FIELDS})

    def test_a_row_that_does_not_fit(self):
        self.refused(InvalidLogs, "s has other fields", check_logs, {"s": self.WRONG}, {"s": FIELDS})
        for row in ((), (1,), (1, "a", "a"), (True, "a"), ("1", "a"), (1, False)):
            for partitions in ([[event(1, *row)]], [[], [event(0, 1, "a"), mark(0), event(1, *row), event(2, 1, "a")]]):
                self.refused(InvalidLogs, "s has other fields", check_logs, {"s": partitions}, {"s": FIELDS})
        self.refused(InvalidLogs, "f has other fields", check_logs, {"f": [[event(0, 1)]]}, {"f": (("f", "flag"),)})

    def test_a_late_event_with_a_row_that_does_not_fit(self):
        self.refused(InvalidLogs, "s has other fields", check_logs, {"s": [[mark(9), event(3, "a", 1)]]}, {"s": FIELDS})

    def test_the_first_in_the_order_of_sources_counts(self):
        logs = {"s": self.WRONG, "t": self.WRONG}
        self.refused(InvalidLogs, "t has other fields", check_logs, logs, {"t": FIELDS, "s": FIELDS})
        self.refused(InvalidLogs, "s has other fields", check_logs, logs, {"s": FIELDS, "t": FIELDS})
        logs = {"s": self.WRONG}
        self.refused(InvalidLogs, "s has other fields", check_logs, logs, {"s": FIELDS, "a": FIELDS})
        self.refused(InvalidLogs, "there is no source a", check_logs, logs, {"a": FIELDS, "s": FIELDS})
        logs = {"s": self.WRONG, "r": self.RIGHT}
        self.refused(InvalidLogs, "there is no source x", check_logs, logs, {"r": FIELDS, "x": FIELDS, "s": FIELDS})
        self.refused(InvalidLogs, "s has other fields", check_logs, logs, {"r": FIELDS, "s": FIELDS, "x": FIELDS})

    def test_arguments_are_left_alone(self):
        self.leaves_alone(check_logs, {"s": [list(entries) for entries in self.RIGHT]}, {"s": FIELDS})


if __name__ == "__main__":
    unittest.main()
