"""Points 14, 15 and 18: tables, changes, lawful flows and events."""

import types
import unittest

from tests.support import ExactCase, generator_of_numbers, spoil
from tideweir.flows.flows import flow_of, sum_flows, table_at, turned
from tideweir.flows.tables import changes_of, is_events, is_lawful, table_of, tables_of

ROWS = ((1,), (True,), (0,), (False,), (None,), ("",), ("a",), ("a", None))


def random_flow(numbers, many):
    """A flow of few rows at few times."""
    return flow_of([(numbers.randint(0, 5), numbers.choice(ROWS), numbers.choice((-2, -1, 1, 2)))
                    for _ in range(many)])


class TableOf(ExactCase):
    def test_no_pairs(self):
        self.same(table_of([]), [])

    def test_rows_in_any_order(self):
        pairs = [(("b",), 1), ((1,), 2), (("a", 1), 3), (("a",), 4), ((None,), 5), ((True,), 6), ((0,), 7)]
        wanted = [((None,), 5), ((True,), 6), ((0,), 7), ((1,), 2), (("a",), 4), (("a", 1), 3), (("b",), 1)]
        self.same(table_of(pairs), wanted)
        self.same(table_of(pairs[::-1]), wanted)

    def test_weights_are_added(self):
        self.same(table_of([((1,), 2), ((2,), 1), ((1,), 3)]), [((1,), 5), ((2,), 1)])
        self.same(table_of([((1,), 2), ((1,), -5)]), [((1,), -3)])
        self.same(table_of([((1,), 1), ((True,), 2), ((False,), 4), ((0,), 8)]),
                  [((False,), 4), ((True,), 2), ((0,), 8), ((1,), 1)])

    def test_pairs_that_add_up_to_0(self):
        self.same(table_of([((1,), 2), ((1,), -2)]), [])
        self.same(table_of([((1,), 2), ((2,), 1), ((1,), -1), ((1,), -1)]), [((2,), 1)])
        self.same(table_of([((True,), 1), ((1,), -1)]), [((True,), 1), ((1,), -1)])
        self.same(table_of([((1,), 0)]), [])

    def test_arguments_are_left_alone(self):
        self.leaves_alone(table_of, [((2,), 1), ((1,), 2), ((1,), 3)])
        self.leaves_alone(table_of, [((1,), 1), ((2,), 2)])


class TablesOf(ExactCase):
    FLOW = flow_of([(2, ("b",), 1), (2, ("a",), 1), (3, ("a",), -1), (3, ("b",), -1), (7, (1,), 1), (7, (True,), 2),
                    (9, (None,), 1), (12, (1,), -1), (999999, ("z",), 1)])

    def test_at_each_time_of_a_move(self):
        self.same(list(tables_of(self.FLOW)), [
            (2, [(("a",), 1), (("b",), 1)]),
            (3, []),
            (7, [((True,), 2), ((1,), 1)]),
            (9, [((None,), 1), ((True,), 2), ((1,), 1)]),
            (12, [((None,), 1), ((True,), 2)]),
            (999999, [((None,), 1), ((True,), 2), (("z",), 1)])])

    def test_one_move_and_no_move(self):
        self.same(list(tables_of([])), [])
        self.same(list(tables_of([(0, (1,), -2)])), [(0, [((1,), -2)])])

    def test_it_is_a_generator(self):
        told = tables_of(self.FLOW)
        self.assertIsInstance(told, types.GeneratorType)
        self.same(next(told), (2, [(("a",), 1), (("b",), 1)]))

    def test_weights_go_up_and_down(self):
        flow = [(0, (1,), 1), (1, (1,), 2), (2, (1,), -4), (3, (1,), 1), (4, (1,), 5)]
        self.same([table for _, table in tables_of(flow)],
                  [[((1,), 1)], [((1,), 3)], [((1,), -1)], [], [((1,), 5)]])

    def test_they_are_the_tables_at_these_times(self):
        numbers = generator_of_numbers(21)
        for _ in range(60):
            flow = random_flow(numbers, numbers.randint(0, 20))
            times = sorted({time for time, _, _ in flow})
            self.same(list(tables_of(flow)), [(time, table_at(flow, time)) for time in times])

    def test_what_is_told_may_be_changed(self):
        found = []
        for time, table in tables_of(self.FLOW):
            found.append((time, list(table)))
            spoil(table)
        self.same(found, list(tables_of(self.FLOW)))

    def test_the_flow_is_left_alone_and_not_kept(self):
        before = repr(self.FLOW)
        wanted = list(tables_of(self.FLOW))
        self.assertEqual(repr(self.FLOW), before)
        flow = list(self.FLOW)
        found = []
        for told in tables_of(flow):
            found.append(told)
            flow.clear()
        self.same(found, wanted)


class ChangesOf(ExactCase):
    def test_no_tables(self):
        self.same(changes_of([]), [])
        self.same(changes_of([(3, [])]), [])
        self.same(changes_of([(3, []), (5, [])]), [])

    def test_rows_come_change_and_go(self):
        tables = [(0, [(("a",), 1), (("b",), 2)]), (4, [(("a",), 3), (("c",), 1)]), (9, [])]
        self.same(changes_of(tables), [(0, ("a",), 1), (0, ("b",), 2), (4, ("a",), 2), (4, ("b",), -2),
                                       (4, ("c",), 1), (9, ("a",), -3), (9, ("c",), -1)])

    def test_a_table_that_is_told_once_more(self):
        table = [((1,), 1), ((2,), 5)]
        self.same(changes_of([(1, table), (2, table), (3, list(table)), (4, table[:1])]),
                  [(1, (1,), 1), (1, (2,), 5), (4, (2,), -5)])

    def test_it_becomes_empty_and_full_again(self):
        self.same(changes_of([(1, [((1,), 1)]), (2, []), (3, [((1,), 1)])]),
                  [(1, (1,), 1), (2, (1,), -1), (3, (1,), 1)])

    def test_true_in_the_place_of_1(self):
        self.same(changes_of([(1, [((1,), 1)]), (2, [((True,), 1)])]), [(1, (1,), 1), (2, (True,), 1), (2, (1,), -1)])
        self.same(changes_of([(1, [((False,), 1)]), (2, [((0,), 1)])]),
                  [(1, (False,), 1), (2, (False,), -1), (2, (0,), 1)])

    def test_weights_below_0(self):
        self.same(changes_of([(1, [((1,), -1)]), (2, [((1,), -3)])]), [(1, (1,), -1), (2, (1,), -2)])

    def test_it_is_the_inverse_of_tables_of(self):
        numbers = generator_of_numbers(22)
        for _ in range(60):
            flow = random_flow(numbers, numbers.randint(0, 20))
            self.same(changes_of(list(tables_of(flow))), flow)

    def test_its_tables_are_those_told(self):
        numbers = generator_of_numbers(23)
        for _ in range(60):
            tables = [(time, table_of([(numbers.choice(ROWS), numbers.choice((-1, 1, 2))) for _ in range(4)]))
                      for time in range(0, 12, 2)]
            changes = changes_of(tables)
            for time, table in tables:
                self.same(table_at(changes, time), table)
                self.same(table_at(changes, time + 1), table)
            self.assertLessEqual({time for time, _, _ in changes}, {time for time, _ in tables})

    def test_arguments_are_left_alone(self):
        self.leaves_alone(changes_of, [(0, [((1,), 1)]), (4, [((1,), 1), ((2,), 1)]), (5, [])])
        self.leaves_alone(changes_of, [(0, [((1,), 1)])])


class Kinds(ExactCase):
    def lawful(self, flow, wanted):
        self.assertIs(is_lawful(flow), wanted, flow)

    def test_the_empty_flow(self):
        self.lawful([], True)
        self.assertIs(is_events([]), True)

    def test_a_weight_below_0_that_is_made_up_for(self):
        for flow in ([(0, (1,), 2), (1, (1,), -1), (2, (1,), -1)], [(0, (1,), 1), (0, (2,), 1), (5, (2,), -1)],
                     [(0, (1,), 1), (1, (1,), -1), (2, (1,), 1), (3, (1,), -1)]):
            self.lawful(flow, True)
            self.assertIs(is_events(flow), False)

    def test_one_that_is_not(self):
        for flow in ([(0, (1,), -1)], [(0, (1,), 1), (1, (1,), -2)], [(0, (1,), 5), (1, (2,), -1)],
                     [(0, (True,), 1), (1, (1,), -1)], [(0, (1,), 1), (1, (True,), -1)],
                     [(0, (0,), 1), (1, (False,), -1)], [(0, ("a",), 1), (1, ("a", None), -1)]):
            self.lawful(flow, False)
            self.assertIs(is_events(flow), False)

    def test_one_at_a_single_time_in_the_middle(self):
        self.lawful([(0, (1,), 1), (1, (1,), -2), (2, (1,), 2)], False)
        self.lawful([(0, (1,), 1), (1, (1,), -1), (2, (1,), 2)], True)
        self.lawful([(0, (1,), -1), (1, (1,), 1)], False)
        self.lawful([(0, (2,), 1), (1, (1,), -1), (1, (2,), 5), (2, (1,), 1), (2, (2,), 1)], False)

    def test_events(self):
        flow = [(0, (1,), 2), (0, (2,), 1), (5, (1,), 7)]
        self.assertIs(is_events(flow), True)
        self.lawful(flow, True)
        self.assertIs(is_events(flow[:2] + [(5, (1,), -1)]), False)
        self.assertIs(is_events([(0, (1,), -1)] + flow[1:]), False)

    def test_lawful_is_what_the_tables_say(self):
        numbers = generator_of_numbers(24)
        met = set()
        for _ in range(200):
            flow = random_flow(numbers, numbers.randint(0, 5))
            wanted = all(weight > 0 for _, table in tables_of(flow) for _, weight in table)
            self.lawful(flow, wanted)
            self.assertIs(is_events(flow), all(weight > 0 for _, _, weight in flow))
            met.add(wanted)
        self.assertEqual(met, {True, False})

    def test_the_table_of_a_sum(self):
        numbers = generator_of_numbers(25)
        for _ in range(40):
            one, other = random_flow(numbers, 10), random_flow(numbers, 10)
            for time, table in tables_of(sum_flows([one, other])):
                self.same(table, table_of(table_at(one, time) + table_at(other, time)))
            self.same(list(tables_of(sum_flows([one, turned(one)]))), [])

    def test_arguments_are_left_alone(self):
        self.leaves_alone(is_lawful, [(0, (1,), 1), (1, (1,), -1)])
        self.leaves_alone(is_events, [(0, (1,), 1), (1, (1,), -1)])


if __name__ == "__main__":
    unittest.main()
