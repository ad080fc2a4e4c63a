"""Points 26, 27, 29 and 30: what operators make of their inputs."""

import unittest
from itertools import product

from tests.plain_operators import plain_define
from tests.random_operators import WORDS, random_case, random_flow_of, random_operator
from tests.support import ExactCase, generator_of_numbers
from tideweir.flows.flows import check_flow, flow_of, part_of, sum_flows
from tideweir.flows.tables import is_events, is_lawful
from tideweir.operators.checks import check_operator
from tideweir.operators.define import define
from tideweir.values.keys import key_of

PAIR = (("k", "text"), ("v", "whole"))
OTHER = (("j", "text"), ("w", "whole"))
K, V = ("column", "k"), ("column", "v")
KJ = (("k", "j"),)


class Linear(ExactCase):
    def test_filter(self):
        flow = [(1, ("a", 1), 2), (1, ("b", None), 1), (3, ("a", 1), -1), (3, ("c", 9), 1), (5, (None, 3), 1)]
        few = ("filter", ("binary", "<", V, ("value", 5)))
        self.same(define(few, [PAIR], [flow]), [(1, ("a", 1), 2), (3, ("a", 1), -1), (5, (None, 3), 1)])
        self.same(define(("filter", ("value", None)), [PAIR], [flow]), [])
        self.same(define(("filter", ("value", False)), [PAIR], [flow]), [])
        self.same(define(("filter", ("value", True)), [PAIR], [flow]), flow)
        self.same(define(few, [PAIR], [[]]), [])

    def test_map(self):
        flow = [(1, ("a", 1), 2), (1, ("b", 1), 1), (2, ("b", 1), -1), (2, ("c", 2), 1), (2, ("d", 1), 1)]
        self.same(define(("map", (("x", V),)), [PAIR], [flow]), [(1, (1,), 3), (2, (2,), 1)])
        self.same(define(("map", (("x", ("binary", "-", ("value", 0), V)), ("y", K))), [PAIR], [flow]),
                  [(1, (-1, "a"), 2), (1, (-1, "b"), 1), (2, (-2, "c"), 1), (2, (-1, "b"), -1), (2, (-1, "d"), 1)])
        self.same(define(("map", (("x", ("value", None)), ("y", ("value", True)))), [PAIR], [flow]),
                  [(1, (None, True), 3), (2, (None, True), 1)])
        self.same(define(("map", (("x", V),)), [PAIR], [[(1, ("a", 1), 1), (1, ("b", 1), -1)]]), [])

    def test_union(self):
        one, other = [(1, ("a", 1), 2), (4, ("a", 1), -2)], [(1, ("a", 1), 1), (2, ("b", None), 1), (4, ("a", 1), 2)]
        wanted = [(1, ("a", 1), 3), (2, ("b", None), 1)]
        self.same(define(("union",), [PAIR, OTHER], [one, other]), wanted)
        self.same(define(("union",), [PAIR, PAIR], [other, one]), wanted)
        self.same(define(("union",), [PAIR, PAIR], [one, []]), one)
        self.same(define(("union",), [PAIR, PAIR], [one, one])[0], (1, ("a", 1), 4))


class Gathering(ExactCase):
    def test_distinct(self):
        flow = [(1, ("a", 1), 2), (2, ("a", 1), -1), (3, ("a", 1), 5), (4, ("a", 1), -6), (4, ("b", None), 1),
                (7, ("a", 1), 1)]
        self.same(define(("distinct",), [PAIR], [flow]),
                  [(1, ("a", 1), 1), (4, ("a", 1), -1), (4, ("b", None), 1), (7, ("a", 1), 1)])
        self.same(define(("distinct",), [PAIR], [[]]), [])

    def test_group(self):
        flow = [(1, ("a", 5), 2), (1, ("b", None), 1), (2, ("a", 3), 1), (5, ("a", 5), -1), (6, ("b", None), -1),
                (8, ("a", 3), -1), (8, ("a", 5), -1)]
        group = ("group", ("k",), (("n", "count", None), ("m", "count", "v"), ("s", "sum", "v"), ("l", "least", "v")))
        self.same(define(group, [PAIR], [flow]), [
            (1, ("a", 2, 2, 10, 5), 1), (1, ("b", 1, 0, None, None), 1), (2, ("a", 2, 2, 10, 5), -1),
            (2, ("a", 3, 3, 13, 3), 1), (5, ("a", 2, 2, 8, 3), 1), (5, ("a", 3, 3, 13, 3), -1),
            (6, ("b", 1, 0, None, None), -1), (8, ("a", 2, 2, 8, 3), -1)])

    def test_group_says_nothing_where_nothing_changes(self):
        flow = [(1, ("a", 5), 1), (2, ("b", 5), 1), (3, ("a", 5), -1), (4, ("b", 5), 1)]
        self.same(define(("group", (), (("m", "mean", "v"), ("x", "most", "v"))), [PAIR], [flow]), [(1, (5, 5), 1)])

    def test_group_without_keys(self):
        group = ("group", (), (("n", "count", None),))
        self.same(define(group, [PAIR], [[]]), [])
        self.same(define(group, [PAIR], [[(3, ("a", 1), 1), (3, ("b", 1), 1), (9, ("a", 1), -1), (9, ("b", 1), -1)]]),
                  [(3, (2,), 1), (9, (2,), -1)])

    def test_group_by_several_columns_and_none(self):
        flow = [(1, (None, None), 1), (1, (None, 0), 1), (1, ("", None), 2), (2, (None, None), 1)]
        group = ("group", ("v", "k"), (("n", "count", None),))
        self.same(define(group, [PAIR], [flow]), [
            (1, (None, None, 1), 1), (1, (None, "", 2), 1), (1, (0, None, 1), 1), (2, (None, None, 1), -1),
            (2, (None, None, 2), 1)])

    def test_group_with_results_that_are_too_large(self):
        flow = [(1, ("a", 10 ** 9), 1), (2, ("a", 1), 1), (3, ("a", -1), 1)]
        self.same(define(("group", ("k",), (("s", "sum", "v"),)), [PAIR], [flow]), [
            (1, ("a", 10 ** 9), 1), (2, ("a", None), 1), (2, ("a", 10 ** 9), -1), (3, ("a", None), -1),
            (3, ("a", 10 ** 9), 1)])

    def test_top(self):
        flow = [(1, ("a", 5), 1), (1, ("a", 7), 1), (2, ("a", 6), 1), (3, ("a", 5), -1), (4, ("b", 1), 1)]
        self.same(define(("top", ("k",), (("v", "up"),), 2), [PAIR], [flow]), [
            (1, ("a", 5), 1), (1, ("a", 7), 1), (2, ("a", 6), 1), (2, ("a", 7), -1), (3, ("a", 5), -1),
            (3, ("a", 7), 1), (4, ("b", 1), 1)])
        self.same(define(("top", (), (("v", "down"),), 1), [PAIR], [flow]), [(1, ("a", 7), 1)])
        self.same(define(("top", (), (("k", "down"), ("v", "up")), 1), [PAIR], [flow]), [
            (1, ("a", 5), 1), (3, ("a", 5), -1), (3, ("a", 6), 1), (4, ("a", 6), -1), (4, ("b", 1), 1)])

    def test_top_counts_weights(self):
        flow = [(1, ("a", 5), 3), (2, ("a", 4), 2), (3, ("a", 4), 2), (4, ("a", 4), -3)]
        self.same(define(("top", ("k",), (("v", "up"),), 4), [PAIR], [flow]), [
            (1, ("a", 5), 3), (2, ("a", 4), 2), (2, ("a", 5), -1), (3, ("a", 4), 2), (3, ("a", 5), -2),
            (4, ("a", 4), -3), (4, ("a", 5), 3)])
        self.same(define(("top", (), (("v", "down"),), 2), [PAIR], [[(1, ("a", 5), 20)]]), [(1, ("a", 5), 2)])

    def test_rows_decide_where_by_does_not(self):
        flow = [(1, ("b", 5), 1), (2, ("a", 5), 1), (3, ("c", 5), 1)]
        for way in ("up", "down"):
            self.same(define(("top", (), (("v", way),), 1), [PAIR], [flow]),
                      [(1, ("b", 5), 1), (2, ("a", 5), 1), (2, ("b", 5), -1)])
            self.same(define(("top", (), (("v", way),), 2), [PAIR], [flow[::2] + [(4, ("a", 5), 1)]]),
                      [(1, ("b", 5), 1), (3, ("c", 5), 1), (4, ("a", 5), 1), (4, ("c", 5), -1)])

    def test_top_orders_as_values_do(self):
        fields = (("x", "text"), ("f", "flag"))
        flow = [(0, ("b", None), 1), (0, (None, True), 1), (0, ("ab", False), 1), (0, ("", True), 1)]
        for way, by, wanted in (("up", "x", (None, True)), ("down", "x", ("b", None)), ("up", "f", ("b", None)),
                                ("down", "f", (None, True))):
            self.same(define(("top", (), ((by, way),), 1), [fields], [flow]), [(0, wanted, 1)])

    def test_window(self):
        flow = [(0, ("a", 1), 1), (2, ("a", 4), 2), (4, ("b", 5), 1), (5, ("a", None), 1), (5, ("a", 7), 1)]
        window = ("window", ("k",), ("tumble", 5), (("n", "count", None), ("s", "sum", "v"), ("l", "last", "v")))
        self.same(define(window, [PAIR], [flow]), [
            (4, ("a", 0, 5, 3, 9, 4), 1), (4, ("b", 0, 5, 1, 5, 5), 1), (9, ("a", 5, 10, 2, 7, 7), 1)])
        self.same(define(window, [PAIR], [[]]), [])

    def test_windows_that_overlap(self):
        flow = [(1, ("a", 1), 1), (4, ("b", 2), 3)]
        self.same(define(("window", (), ("hop", 6, 3), (("n", "count", None), ("f", "first", "k"))), [PAIR], [flow]), [
            (2, (-3, 3, 1, "a"), 1), (5, (0, 6, 4, "a"), 1), (8, (3, 9, 3, "b"), 1)])

    def test_sessions_of_keys(self):
        flow = [(1, ("a", 1), 1), (3, ("b", 2), 1), (3, (None, 3), 1), (4, ("a", 4), 1), (5, (None, 5), 1),
                (6, ("b", 6), 1)]
        window = ("window", ("k",), ("session", 3), (("n", "count", None), ("f", "first", "v"), ("l", "last", "v")))
        self.same(define(window, [PAIR], [flow]), [
            (3, ("a", 1, 4, 1, 1, 1), 1), (5, ("b", 3, 6, 1, 2, 2), 1), (6, ("a", 4, 7, 1, 4, 4), 1),
            (7, (None, 3, 8, 2, 3, 5), 1), (8, ("b", 6, 9, 1, 6, 6), 1)])

    def test_first_and_last_by_time_and_then_by_row(self):
        flow = [(3, ("b", 1), 1), (3, ("c", 0), 1), (4, ("a", None), 1), (4, ("a", 2), 1)]
        window = ("window", (), ("tumble", 10), (("f", "first", "k"), ("g", "first", "v"), ("l", "last", "k"),
                                                 ("m", "last", "v")))
        self.same(define(window, [PAIR], [flow]), [(9, (0, 10, "b", 1, "a", 2), 1)])
        self.same(define(window, [PAIR], [flow[:3]]), [(9, (0, 10, "b", 1, "a", None), 1)])

    def test_firsts(self):
        flow = [(1, ("a", 2), 3), (1, ("a", 4), 1), (5, ("a", 1), 1), (5, ("b", 1), 2), (6, ("a", 9), 1),
                (6, ("a", 10), 1), (10, ("b", 3), 1), (11, ("a", 7), 5)]
        self.same(define(("first", ("k",), 5), [PAIR], [flow]), [
            (1, ("a", 2), 1), (5, ("b", 1), 1), (6, ("a", 9), 1), (10, ("b", 3), 1), (11, ("a", 7), 1)])
        self.same(define(("first", ("k",), 6), [PAIR], [flow]), [(1, ("a", 2), 1), (5, ("b", 1), 1),
                                                                 (11, ("a", 7), 1)])
        self.same(define(("first", ("k",), 4), [PAIR], [flow]), [
            (1, ("a", 2), 1), (5, ("a", 1), 1), (5, ("b", 1), 1), (10, ("b", 3), 1), (11, ("a", 7), 1)])
        self.same(define(("first", ("k", "v"), 100000), [PAIR], [flow]),
                  [(time, row, 1) for time, row, _ in flow])

    def test_first_is_held_back_by_what_came_out_alone(self):
        flow = [(time, ("a", 0), 1) for time in range(0, 12, 2)]
        self.same(define(("first", ("k",), 5), [PAIR], [flow]), [(0, ("a", 0), 1), (6, ("a", 0), 1)])
        self.same(define(("first", ("k",), 1), [PAIR], [flow]), flow)
        self.same(define(("first", ("v",), 2), [PAIR], [flow]), flow)
        self.same(define(("first", ("v",), 3), [PAIR], [flow]), flow[::2])


class Pairing(ExactCase):
    LEFT = [(5, ("a", 1), 2), (5, (None, 2), 1), (9, ("b", 3), 1), (9, ("c", 4), 1)]
    RIGHT = [(3, ("a", 10), 1), (6, ("a", 11), 3), (7, (None, 12), 1), (12, ("b", 13), 1), (30, ("", 14), 1)]

    def near(self, low, high, keep):
        return define(("near", KJ, low, high, keep), [PAIR, OTHER], [self.LEFT, self.RIGHT])

    def test_near(self):
        self.same(self.near(-2, 3, "inner"), [
            (5, ("a", 1, "a", 10), 2), (6, ("a", 1, "a", 11), 6), (7, (None, 2, None, 12), 1),
            (12, ("b", 3, "b", 13), 1)])
        self.same(self.near(-1, 2, "inner"), [(6, ("a", 1, "a", 11), 6), (7, (None, 2, None, 12), 1)])
        self.same(self.near(-2, -2, "inner"), [(5, ("a", 1, "a", 10), 2)])
        self.same(self.near(2, 2, "inner"), [(7, (None, 2, None, 12), 1)])
        self.same(self.near(0, 0, "inner"), [])

    def test_near_that_keeps_the_left(self):
        alone = (None, None)
        self.same(self.near(-2, 3, "left"), [
            (5, ("a", 1, "a", 10), 2), (6, ("a", 1, "a", 11), 6), (7, (None, 2, None, 12), 1),
            (12, ("b", 3, "b", 13), 1), (12, ("c", 4) + alone, 1)])
        self.same(self.near(-2, -2, "left"), [
            (5, (None, 2) + alone, 1), (5, ("a", 1, "a", 10), 2), (9, ("b", 3) + alone, 1), (9, ("c", 4) + alone, 1)])
        self.same(self.near(-1, 0, "left"), [
            (5, (None, 2) + alone, 1), (5, ("a", 1) + alone, 2), (9, ("b", 3) + alone, 1), (9, ("c", 4) + alone, 1)])
        self.same(self.near(3, 5, "left"), [
            (10, (None, 2) + alone, 1), (10, ("a", 1) + alone, 2), (12, ("b", 3, "b", 13), 1),
            (14, ("c", 4) + alone, 1)])

    def test_near_takes_weights_times_each_other(self):
        self.same(define(("near", KJ, 0, 5, "left"), [PAIR, OTHER], [[(1, ("a", 1), 3)], [(2, ("a", 2), 4)]]),
                  [(2, ("a", 1, "a", 2), 12)])

    def test_alone_is_summed_with_what_found_a_partner_of_none(self):
        flows = [[(1, ("a", 1), 1), (2, ("a", 1), 5)], [(1, ("a", None), 1)]]
        self.same(define(("near", (("v", "w"),), 0, 1, "left"), [PAIR, OTHER], flows),
                  [(2, ("a", 1, None, None), 1), (3, ("a", 1, None, None), 5)])
        flows = [[(1, (None, 1), 1), (3, (None, 1), 2)], [(3, (None, None), 3)]]
        self.same(define(("near", KJ, -1, 0, "left"), [PAIR, OTHER], flows),
                  [(1, (None, 1, None, None), 1), (3, (None, 1, None, None), 6)])
        flows = [[(1, (None, 1), 1), (3, (None, 1), 2)], [(3, (None, None), 1), (9, (None, 0), 1)]]
        self.same(define(("near", KJ, 0, 0, "left"), [PAIR, OTHER], flows),
                  [(1, (None, 1, None, None), 1), (3, (None, 1, None, None), 2)])

    def test_asof(self):
        right = [(1, ("a", 1), 1), (3, ("a", 1), -1), (3, ("a", 2), 2), (5, ("a", 2), -1), (5, (None, 7), 1),
                 (6, ("a", 3), 1), (9, ("a", 2), -1), (9, ("b", 8), 1), (10, ("c", 4), 1)]
        inner = [(5, (None, 2, None, 7), 1), (5, ("a", 1, "a", 2), 2), (9, ("b", 3, "b", 8), 1)]
        self.same(define(("asof", KJ, "inner"), [PAIR, OTHER], [self.LEFT, right]), inner)
        self.same(define(("asof", KJ, "left"), [PAIR, OTHER], [self.LEFT, right]),
                  inner + [(9, ("c", 4, None, None), 1)])
        for time, found in ((0, []), (1, [1]), (2, [1]), (3, [2, 2]), (5, [2]), (6, [2, 3]), (9, [3])):
            told = define(("asof", KJ, "inner"), [PAIR, OTHER], [[(time, ("a", 0), 1)], right])
            self.same([row[3] for _, row, weight in told for _ in range(weight)], found)

    def test_asof_finds_nothing_where_all_went_again(self):
        right = [(1, ("a", 1), 2), (4, ("a", 1), -2)]
        self.same(define(("asof", KJ, "left"), [PAIR, OTHER], [[(3, ("a", 0), 1), (4, ("a", 0), 3)], right]),
                  [(3, ("a", 0, "a", 1), 2), (4, ("a", 0, None, None), 3)])

    def test_join(self):
        left = [(1, ("a", 1), 2), (4, ("a", 2), 1), (6, ("a", 1), -2), (7, (None, 1), 1)]
        right = [(2, ("a", 5), 3), (4, ("b", 5), 1), (5, ("a", 5), -1), (5, ("a", 6), 1), (9, (None, 0), 1)]
        self.same(define(("join", KJ), [PAIR, OTHER], [left, right]), [
            (2, ("a", 1, "a", 5), 6), (4, ("a", 2, "a", 5), 3), (5, ("a", 1, "a", 5), -2), (5, ("a", 1, "a", 6), 2),
            (5, ("a", 2, "a", 5), -1), (5, ("a", 2, "a", 6), 1), (6, ("a", 1, "a", 5), -4), (6, ("a", 1, "a", 6), -2),
            (9, (None, 1, None, 0), 1)])
        self.same(define(("join", KJ), [PAIR, OTHER], [left, []]), [])

    def test_both_sides_of_a_join_change_at_once(self):
        flows = [[(1, ("a", 1), 1), (2, ("a", 1), -1), (2, ("a", 2), 1)],
                 [(1, ("a", 8), 1), (2, ("a", 8), -1), (2, ("a", 9), 2)]]
        self.same(define(("join", KJ), [PAIR, OTHER], flows), [
            (1, ("a", 1, "a", 8), 1), (2, ("a", 1, "a", 8), -1), (2, ("a", 2, "a", 9), 2)])

    def test_several_pairs(self):
        on = (("v", "w"), ("k", "j"))
        flows = [[(1, ("a", 1), 1), (1, ("a", None), 1), (1, ("b", 1), 1)],
                 [(1, ("a", 1), 1), (1, ("a", 2), 1), (1, ("a", None), 1)]]
        wanted = [(1, ("a", None, "a", None), 1), (1, ("a", 1, "a", 1), 1)]
        for operator in (("join", on), ("asof", on, "inner"), ("near", on, 0, 0, "inner")):
            self.same(define(operator, [PAIR, OTHER], flows), wanted)

    def test_true_is_no_partner_of_1(self):
        fields = [(("x", "flag"), ("y", "whole")), (("z", "flag"), ("u", "whole"))]
        flows = [[(1, (True, 1), 1), (1, (False, 0), 1)], [(1, (False, 0), 1), (1, (True, 0), 1)]]
        self.same(define(("join", (("x", "z"),)), fields, flows),
                  [(1, (False, 0, False, 0), 1), (1, (True, 1, True, 0), 1)])


class AllOfThem(ExactCase):
    CASES = 60

    def cases(self, seed, words=WORDS):
        numbers = generator_of_numbers(seed)
        for word, _ in product(words, range(self.CASES)):
            yield (numbers, *random_case(numbers, word))

    def test_they_are_what_the_document_says(self):
        for _, operator, fields, flows in self.cases(54):
            self.same(define(operator, fields, flows), plain_define(operator, fields, flows))

    def test_outputs_are_flows_that_fit_and_are_lawful(self):
        for _, operator, fields, flows in self.cases(55):
            kinds = ["events" if is_events(flow) else "table" for flow in flows]
            output_fields, kind = check_operator(operator, list(zip(fields, kinds)))
            output = define(operator, fields, flows)
            check_flow(output, output_fields)
            self.assertTrue(is_lawful(output))
            self.assertTrue(kind == "table" or is_events(output))

    def test_the_part_up_to_a_time_is_that_of_the_parts(self):
        for numbers, operator, fields, flows in self.cases(56):
            time = numbers.randint(-1, 30)
            early = define(operator, fields, [part_of(flow, -1, time) for flow in flows])
            self.same(part_of(early, -1, time), part_of(define(operator, fields, flows), -1, time))

    def test_sums_of_inputs(self):
        for numbers, operator, fields, flows in self.cases(57, ("filter", "map", "union")):
            others = [random_flow_of(numbers, own, "table", 6) for own in fields]
            self.same(define(operator, fields, [sum_flows(pair) for pair in zip(flows, others)]),
                      sum_flows([define(operator, fields, flows), define(operator, fields, others)]))

    def test_the_rows_of_a_key_depend_on_its_rows_alone(self):
        for _, operator, fields, flows in self.cases(58, ("group", "top", "window", "first")):
            columns = operator[1]
            keys = {repr(key_of(row, fields[0], columns)): None for _, row, _ in flows[0]}
            parts = [define(operator, fields, [[move for move in flows[0]
                                                if repr(key_of(move[1], fields[0], columns)) == key]])
                     for key in keys]
            self.same(define(operator, fields, flows), sum_flows(parts))

    def test_the_rows_of_a_distinct_row_depend_on_it_alone(self):
        for _, operator, fields, flows in self.cases(59, ("distinct",)):
            rows = {repr(row): None for _, row, _ in flows[0]}
            parts = [define(operator, fields, [[move for move in flows[0] if repr(move[1]) == row]]) for row in rows]
            self.same(define(operator, fields, flows), sum_flows(parts))

    def test_late_times(self):
        flow = [(0, ("a", 1), 1), (894000, ("a", 2), 1), (900000, ("b", 3), 1)]
        self.same(define(("window", (), ("hop", 5000, 2500), (("n", "count", None),)), [PAIR], [flow]), [
            (2499, (-2500, 2500, 1), 1), (4999, (0, 5000, 1), 1), (894999, (890000, 895000, 1), 1),
            (897499, (892500, 897500, 1), 1), (902499, (897500, 902500, 1), 1), (904999, (900000, 905000, 1), 1)])
        self.same(define(("near", KJ, 5000, 5000, "left"), [PAIR, OTHER], [flow, []]),
                  flow_of([(time + 5000, row + (None, None), 1) for time, row, _ in flow]))
        self.same(define(("first", ("k",), 100000), [PAIR], [flow]), flow)

    def test_arguments_are_left_alone(self):
        numbers = generator_of_numbers(60)
        for word in WORDS:
            self.leaves_alone(define, *random_case(numbers, word))
            _, fields, _ = random_case(numbers, word)
            self.leaves_alone(define, random_operator(numbers, word, fields), fields, [[] for _ in fields])


if __name__ == "__main__":
    unittest.main()
