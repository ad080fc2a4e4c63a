"""Points 12, 13, 14 and 18: flows, their sums, their parts and their tables."""

import unittest

from tests.support import ExactCase, generator_of_numbers, is_row_ahead
from tideweir.errors import InvalidFlow
from tideweir.flows.flows import check_flow, flow_of, part_of, sum_flows, table_at, turned
from tideweir.values.order import same_rows

FIELDS = (("a", "whole"), ("b", "text"))
MIXED = (("a", "flag"),)


def random_moves(numbers, many):
    """Moves at few times and of few rows, so that many of them meet."""
    rows = ((1,), (True,), (0,), (False,), (None,), ("",), ("1",), (1, None), (1, "a"), (2, 1))
    return [(numbers.randint(0, 4), numbers.choice(rows), numbers.choice((-2, -1, 1, 1, 2))) for _ in range(many)]


def slow_sum(moves):
    """The sum of moves, by insertion into a list and without tuples for the order."""
    found = []
    for time, row, weight in moves:
        at = 0
        while at < len(found) and (found[at][0] < time or found[at][0] == time and is_row_ahead(found[at][1], row)):
            at += 1
        if at < len(found) and found[at][0] == time and repr(found[at][1]) == repr(row):
            found[at] = (time, row, found[at][2] + weight)
        else:
            found.insert(at, (time, row, weight))
    return [move for move in found if move[2] != 0]


class Sums(ExactCase):
    def test_no_moves(self):
        self.same(flow_of([]), [])

    def test_moves_in_order_of_times_and_then_of_rows(self):
        moves = [(5, (1,), 1), (0, ("b",), 2), (5, (None,), -1), (0, ("a",), 3), (999999, (0,), 1), (5, (True,), 4)]
        wanted = [(0, ("a",), 3), (0, ("b",), 2), (5, (None,), -1), (5, (True,), 4), (5, (1,), 1), (999999, (0,), 1)]
        self.same(flow_of(moves), wanted)
        self.same(flow_of(moves[::-1]), wanted)

    def test_times_are_compared_as_numbers(self):
        moves = [(10, (1,), 1), (9, (1,), 1), (100, (1,), 1), (999999, (1,), 1), (0, (1,), 1)]
        self.same([time for time, _, _ in flow_of(moves)], [0, 9, 10, 100, 999999])

    def test_weights_are_added(self):
        self.same(flow_of([(1, (1, "a"), 2), (1, (1, "a"), 3)]), [(1, (1, "a"), 5)])
        self.same(flow_of([(1, (1,), 2), (2, (1,), 3)]), [(1, (1,), 2), (2, (1,), 3)])
        self.same(flow_of([(1, (1,), 10 ** 9), (1, (1,), 10 ** 9)]), [(1, (1,), 2 * 10 ** 9)])
        self.same(flow_of([(3, (1,), -1), (3, (1,), -1), (3, (1,), 1)]), [(3, (1,), -1)])

    def test_weights_that_add_up_to_0(self):
        self.same(flow_of([(1, (1,), 2), (1, (1,), -2)]), [])
        self.same(flow_of([(1, (1,), 2), (1, (2,), 1), (1, (1,), -1), (1, (1,), -1)]), [(1, (2,), 1)])
        self.same(flow_of([(1, (1,), 2), (1, (1,), -2), (1, (1,), 3)]), [(1, (1,), 3)])

    def test_true_and_1_at_one_time(self):
        wanted = [(4, (False,), 7), (4, (True,), 1), (4, (0,), 5), (4, (1,), 2)]
        self.same(flow_of([(4, (1,), 2), (4, (0,), 5), (4, (True,), 1), (4, (False,), 7)]), wanted)
        self.same(flow_of([(4, (True,), 1), (4, (1,), -1)]), [(4, (True,), 1), (4, (1,), -1)])

    def test_the_order_of_moves_does_not_matter(self):
        numbers = generator_of_numbers(11)
        for _ in range(60):
            moves = random_moves(numbers, numbers.randint(0, 25))
            wanted = slow_sum(moves)
            self.same(flow_of(moves), wanted)
            numbers.shuffle(moves)
            self.same(flow_of(moves), wanted)

    def test_sum_flows_of_none_one_and_many(self):
        one = [(1, (1,), 1), (2, ("a",), -1)]
        other = [(0, (None,), 1), (1, (1,), 1), (2, ("a",), 1)]
        self.same(sum_flows([]), [])
        self.same(sum_flows([[]]), [])
        self.same(sum_flows([one]), one)
        self.same(sum_flows([one, other]), [(0, (None,), 1), (1, (1,), 2)])
        self.same(sum_flows([other, one]), [(0, (None,), 1), (1, (1,), 2)])
        self.same(sum_flows([one, [], other, other]), [(0, (None,), 2), (1, (1,), 3), (2, ("a",), 1)])
        self.same(sum_flows([one, turned(one)]), [])

    def test_sums_of_sums(self):
        numbers = generator_of_numbers(12)
        for _ in range(30):
            moves = random_moves(numbers, 24)
            flows = [flow_of(moves[:5]), flow_of(moves[5:17]), flow_of(moves[17:])]
            self.same(sum_flows(flows), flow_of(moves))
            self.same(sum_flows(flows[::-1]), flow_of(moves))
            self.same(sum_flows([sum_flows(flows[:2]), flows[2]]), flow_of(moves))

    def test_turned(self):
        self.same(turned([]), [])
        flow = [(0, (True,), 2), (0, (1,), -3), (7, ("a", None), 1)]
        self.same(turned(flow), [(0, (True,), -2), (0, (1,), 3), (7, ("a", None), -1)])
        self.same(turned(turned(flow)), flow)

    def test_arguments_are_left_alone(self):
        self.leaves_alone(flow_of, [(2, (1,), 1), (1, (1,), 1), (1, (1,), 2)])
        self.leaves_alone(flow_of, [(1, (1,), 1), (2, (1,), 1)])
        self.leaves_alone(sum_flows, [[(1, (1,), 1)]])
        self.leaves_alone(sum_flows, [[(1, (1,), 1)], [(0, (1,), 1)], []])
        self.leaves_alone(turned, [(1, (1,), 1)])


class Parts(ExactCase):
    FLOW = [(0, (1,), 1), (0, (2,), 1), (3, (1,), -1), (4, (1,), 2), (999999, (5,), 1)]

    def test_above_and_up_to(self):
        self.same(part_of(self.FLOW, 0, 3), [(3, (1,), -1)])
        self.same(part_of(self.FLOW, 2, 4), [(3, (1,), -1), (4, (1,), 2)])
        self.same(part_of(self.FLOW, 3, 4), [(4, (1,), 2)])
        self.same(part_of(self.FLOW, 4, 999998), [])
        self.same(part_of(self.FLOW, 999998, 999999), [(999999, (5,), 1)])
        self.same(part_of(self.FLOW, 999999, 1000000), [])

    def test_from_the_mark_before_all_times_on(self):
        self.same(part_of(self.FLOW, -1, 0), [(0, (1,), 1), (0, (2,), 1)])
        self.same(part_of(self.FLOW, -1, 1000000), self.FLOW)
        self.same(part_of(self.FLOW, -1, -1), [])

    def test_empty_parts(self):
        self.same(part_of([], -1, 1000000), [])
        self.same(part_of(self.FLOW, 3, 3), [])
        self.same(part_of(self.FLOW, 4, 3), [])
        self.same(part_of(self.FLOW, 0, 2), [])

    def test_a_flow_is_the_sum_of_its_parts(self):
        numbers = generator_of_numbers(13)
        for _ in range(30):
            flow = flow_of(random_moves(numbers, 20))
            for mark in range(-1, 6):
                below, above = part_of(flow, -1, mark), part_of(flow, mark, 1000000)
                self.same(below + above, flow)
                self.same(sum_flows([above, below]), flow)

    def test_arguments_are_left_alone(self):
        self.leaves_alone(part_of, list(self.FLOW), -1, 1000000)
        self.leaves_alone(part_of, list(self.FLOW), 0, 3)


class Tables(ExactCase):
    FLOW = flow_of([(2, ("b",), 1), (2, ("a",), 1), (5, ("a",), 2), (5, (True,), 1), (5, (1,), 1), (9, ("b",), -1),
                    (9, (True,), -2), (12, ("a",), -3)])

    def test_before_the_first_time(self):
        self.same(table_at(self.FLOW, -1), [])
        self.same(table_at(self.FLOW, 0), [])
        self.same(table_at(self.FLOW, 1), [])

    def test_at_times_of_moves_and_between_them(self):
        first = [(("a",), 1), (("b",), 1)]
        second = [((True,), 1), ((1,), 1), (("a",), 3), (("b",), 1)]
        third = [((True,), -1), ((1,), 1), (("a",), 3)]
        for time, wanted in ((2, first), (3, first), (4, first), (5, second), (8, second), (9, third), (11, third)):
            self.same(table_at(self.FLOW, time), wanted)

    def test_behind_the_last(self):
        for time in (12, 13, 999999, 1000000):
            self.same(table_at(self.FLOW, time), [((True,), -1), ((1,), 1)])

    def test_at_the_mark_before_all_times(self):
        self.same(table_at([(0, (1,), 1)], -1), [])
        self.same(table_at([(0, (1,), 1)], 0), [((1,), 1)])
        self.same(table_at([], -1), [])
        self.same(table_at([], 7), [])

    def test_rows_of_later_times_come_in_their_order(self):
        flow = [(0, (5,), 1), (1, (3,), 1), (2, (4,), 1), (3, (None,), 1)]
        self.same(table_at(flow, 3), [((None,), 1), ((3,), 1), ((4,), 1), ((5,), 1)])

    def test_the_table_of_a_sum_is_the_sum_of_the_tables(self):
        numbers = generator_of_numbers(14)
        for _ in range(30):
            one, other = flow_of(random_moves(numbers, 9)), flow_of(random_moves(numbers, 9))
            for time in range(-1, 6):
                pairs = table_at(one, time) + table_at(other, time)
                wanted = slow_sum([(0, row, weight) for row, weight in pairs])
                self.same(table_at(sum_flows([one, other]), time), [(row, weight) for _, row, weight in wanted])

    def test_arguments_are_left_alone(self):
        self.leaves_alone(table_at, list(self.FLOW), 5)
        self.leaves_alone(table_at, [(0, (1,), 1)], 0)


class Checks(ExactCase):
    def wrong(self, flow, fields):
        self.refused(InvalidFlow, "that is no flow", check_flow, flow, fields)

    def test_flows_that_are_right(self):
        self.assertIs(check_flow([], FIELDS), None)
        self.assertIs(check_flow([(0, (1, "a"), 1)], FIELDS), None)
        self.assertIs(check_flow([(0, (None, None), -5), (0, (1, "a"), 1), (0, (1, "b"), 1), (1, (0, "a"), 1),
                                  (999999, (0, "a"), 10 ** 9)], FIELDS), None)
        self.assertIs(check_flow([(3, (None,), 1), (3, (False,), 1), (3, (True,), 1)], MIXED), None)

    def test_a_weight_of_0(self):
        self.wrong([(0, (1, "a"), 0)], FIELDS)
        self.wrong([(0, (1, "a"), 1), (0, (1, "b"), 0), (1, (1, "a"), 1)], FIELDS)
        self.wrong([(0, (1, "a"), 1), (1, (1, "a"), 0)], FIELDS)

    def test_times_that_fall(self):
        self.wrong([(1, (1, "a"), 1), (0, (2, "a"), 1)], FIELDS)
        self.wrong([(0, (1, "a"), 1), (2, (1, "a"), 1), (1, (2, "a"), 1)], FIELDS)

    def test_rows_that_fall(self):
        self.wrong([(1, (2, "a"), 1), (1, (1, "a"), 1)], FIELDS)
        self.wrong([(1, (1, "b"), 1), (1, (1, "a"), 1)], FIELDS)
        self.wrong([(1, (1, "b"), 1), (1, (1, None), 1)], FIELDS)
        self.wrong([(3, (True,), 1), (3, (False,), 1)], MIXED)
        self.wrong([(0, (2, "a"), 1), (1, (1, "a"), 1), (1, (0, "a"), 1)], FIELDS)

    def test_a_move_twice(self):
        self.wrong([(1, (1, "a"), 1), (1, (1, "a"), 1)], FIELDS)
        self.wrong([(1, (1, "a"), 1), (1, (1, "a"), -1)], FIELDS)
        self.wrong([(0, (1, "a"), 1), (1, (1, "a"), 1), (1, (1, "a"), 2)], FIELDS)

    def test_a_row_that_does_not_fit(self):
        for row in ((1,), (1, "a", None), ("a", "a"), (True, "a"), (1, 1), (1, False)):
            self.wrong([(0, row, 1)], FIELDS)
            self.wrong([(0, (0, "a"), 1), (5, row, 1), (6, (0, "a"), 1)], FIELDS)
        self.wrong([(0, (1,), 1)], MIXED)
        self.wrong([(0, (True,), 1), (0, (1,), 1)], MIXED)

    def test_every_sum_is_a_flow(self):
        numbers = generator_of_numbers(15)
        for _ in range(30):
            moves = [(numbers.randint(0, 3), (numbers.randint(0, 3), numbers.choice("ab")), numbers.choice((-1, 1)))
                     for _ in range(15)]
            self.assertIs(check_flow(flow_of(moves), FIELDS), None)
            self.assertIs(check_flow(turned(flow_of(moves)), FIELDS), None)
            for (time, row, _), (later, other, _) in zip(flow_of(moves), flow_of(moves)[1:]):
                self.assertFalse(time == later and same_rows(row, other))

    def test_arguments_are_left_alone(self):
        self.leaves_alone(check_flow, [(0, (1, "a"), 1), (1, (1, "a"), 1)], FIELDS)


if __name__ == "__main__":
    unittest.main()
