"""Points 82 to 86: with which weight a row stands, what tells it, why, and the impact of an event."""

import unittest

from tests.plain_meanings import plain_meaning
from tests.plain_operators import plain_sum
from tests.plain_witnesses import plain_events, plain_least_why, plain_only, plain_tells, plain_weight, plain_why
from tests.random_witnesses import random_meaning, rows_that_stand
from tests.support import ExactCase, generator_of_numbers
from tideweir.errors import InvalidLogs, InvalidPlan
from tideweir.witnesses.places import events_of, without_these
from tideweir.witnesses.reasons import impact, least_why, tells, weight_of, why

FIELDS = (("k", "text"), ("v", "whole"))
OTHER = (("j", "text"), ("w", "whole"))
S, T = (("source", "s", FIELDS), ()), (("source", "t", OTHER), ())
COUNT = ("group", ("k",), (("n", "count", None),))
END = ("mark", 1000000)
A1, A2, B1, B2 = ("a", 1), ("a", 2), ("b", 1), ("b", 2)


def events(*pairs):
    """Entries of events, each a time and a row."""
    return [("event", time, row) for time, row in pairs]


class Weights(ExactCase):
    logs = {"s": [events((1, A1), (3, A1), (3, A1), (5, B1)) + [("mark", 4)] + events((4, A2), (9, A1))]}

    def weighs(self, plan, time, row, weight):
        self.same(weight_of(plan, self.logs, time, row), weight)
        self.leaves_alone(weight_of, plan, self.logs, time, row)

    def test_events(self):
        for time, row, weight in ((1, A1, 1), (3, A1, 2), (5, B1, 1), (2, A1, 0), (4, A2, 0), (5, A1, 0), (9, A1, 1),
                                  (1, ("a", True), 0), (1, ("a",), 0), (10, A1, 0)):
            self.weighs((S,), time, row, weight)

    def test_tables(self):
        plan = (S, (COUNT, (0,)))
        for time, row, weight in ((0, A1, 0), (1, A1, 1), (2, A1, 1), (3, A1, 0), (3, ("a", 3), 1), (8, ("a", 3), 1),
                                  (9, ("a", 4), 1), (9, ("a", 3), 0), (99, ("a", 4), 1), (4, ("b", 1), 0),
                                  (5, ("b", 1), 1), (5, ("b", True), 0)):
            self.weighs(plan, time, row, weight)

    def test_weights_above_1(self):
        to = ("map", (("k", ("column", "k")),))
        self.weighs((S, (to, (0,))), 3, ("a",), 2)
        self.weighs((S, (("top", (), (("v", "up"),), 9), (0,))), 3, A1, 3)

    def test_what_is_refused(self):
        for function in (weight_of, why, least_why):
            self.refused(InvalidPlan, "no nodes", function, (), {}, 1, A1)
            self.refused(InvalidPlan, "node 1: there is no column k", function, (T, (COUNT, (0,))), {}, 1, A1)
            self.refused(InvalidLogs, "there is no source s", function, (S,), {"t": [[]]}, 1, A1)
            self.refused(InvalidLogs, "s has other fields", function, (S, T, (("union",), (1, 0))),
                         {"s": [events((1, (1, 1)))], "t": [events((1, (1, 1)))]}, 1, A1)
            self.refused(InvalidLogs, "t has other fields", function, (T, S, (("union",), (1, 0))),
                         {"s": [events((1, (1, 1)))], "t": [events((1, (1, 1)))]}, 1, A1)

    def test_by_chance(self):
        for seed in range(150):
            numbers = generator_of_numbers(seed)
            plan, logs, flow = random_meaning(numbers)
            for time, row, weight in rows_that_stand(numbers, plan, flow):
                self.same(weight_of(plan, logs, time, row), weight)
                for moment in (time - 1, time + 1, 30):
                    self.same(weight_of(plan, logs, moment, row), plain_weight(plan, logs, moment, row))


class Tells(ExactCase):
    logs = {"s": [events((1, A1), (2, A2), (3, B1), (3, A1)) + [("mark", 5)] + events((5, A1))]}

    def test_which_places_tell(self):
        plan = (S, (("group", ("k",), (("n", "most", "v"),)), (0,)))
        for places, wanted in (([("s", 0, 1)], True), ([("s", 0, 0)], False), ([], False),
                               ([("s", 0, 0), ("s", 0, 1), ("s", 0, 5)], True), ([("s", 0, 2), ("s", 0, 5)], False)):
            self.same(tells(plan, self.logs, places, 3, A2), wanted)
        self.leaves_alone(tells, plan, self.logs, [("s", 0, 1)], 3, A2)

    def test_the_weight_is_to_be_the_same(self):
        plan = (S, (("map", (("k", ("column", "k")),)), (0,)))
        self.same(tells((S,), self.logs, [("s", 0, 3)], 3, A1), True)
        top = (S, (("top", ("k",), (("k", "up"),), 9), (0,)))
        self.same(tells(top, self.logs, [("s", 0, 0)], 1, A1), True)
        self.same(tells(top, self.logs, [("s", 0, 0)], 3, A1), False)
        self.same(tells(top, self.logs, [("s", 0, 0), ("s", 0, 3)], 3, A1), True)
        self.same(tells(plan, self.logs, [], 2, ("z",)), False)

    def test_a_row_that_does_not_stand_is_not_told(self):
        plan = (S, (COUNT, (0,)))
        self.same(tells(plan, self.logs, [("s", 0, 0)], 9, ("a", 1)), False)
        self.same(tells(plan, self.logs, [("s", 0, 0)], 1, ("a", 1)), True)
        self.same(tells(plan, self.logs, [], 9, ("z", 0)), False)

    def test_what_is_refused(self):
        self.refused(InvalidPlan, "no nodes", tells, (), {}, [("x", 0, 0)], 1, A1)
        self.refused(InvalidLogs, "there is no source s", tells, (S,), {}, [("x", 0, 0)], 1, A1)
        self.refused(InvalidLogs, "there is no event at s, 0, 4", tells, (S,), self.logs,
                     [("s", 0, 3), ("s", 0, 4), ("s", 0, 9)], 1, A1)
        self.refused(InvalidLogs, "there is no event at x, 0, 0", tells, (S,), self.logs, [("x", 0, 0)], 1, ("z", 9))

    def test_by_chance(self):
        for seed in range(100):
            numbers = generator_of_numbers(seed)
            plan, logs, flow = random_meaning(numbers)
            for time, row, _ in rows_that_stand(numbers, plan, flow):
                places = [place for place in plain_events(logs) if numbers.random() < 0.7]
                self.same(tells(plan, logs, places, time, row), plain_tells(plan, logs, places, time, row))


class Why(ExactCase):
    left = [events((1, A1), (2, A2), (2, B1), (7, A1)) + [("mark", 6)] + events((3, A1))]
    right = [events((1, A1)), events((2, A2), (3, B2), (8, A1))]
    logs = {"s": left, "t": right}

    def because(self, plan, time, row, *places, logs=None):
        """These are the places, written as the name and the numbers one behind the other."""
        wanted = [(place[0], int(place[1]), int(place[2])) for place in places]
        self.same(why(plan, logs or self.logs, time, row), wanted)
        self.leaves_alone(why, plan, logs or self.logs, time, row)

    def test_rows_that_do_not_stand(self):
        self.same(why((S,), self.logs, 1, B1), None)
        self.same(why((S, (COUNT, (0,))), self.logs, 0, A1), None)

    def test_sources(self):
        self.because((S,), 1, A1, "s00")
        self.because((S,), 7, A1, "s00", "s03")

    def test_filter_and_distinct(self):
        is_1 = ("filter", ("binary", "==", ("column", "v"), ("value", 1)))
        self.because((S, (is_1, (0,))), 2, B1, "s02")
        self.because((S, (("distinct",), (0,))), 5, A1, "s00")
        self.because((S, (("distinct",), (0,))), 9, A1, "s00", "s03")

    def test_map(self):
        to = ("map", (("x", ("column", "k")), ("y", ("binary", "-", ("column", "v"), ("value", 1)))))
        self.because((S, (to, (0,))), 2, ("a", 1), "s00", "s01")
        both = ("map", (("x", ("column", "v")), ("y", ("column", "k")), ("z", ("column", "v"))))
        self.because((S, (both, (0,))), 2, (2, "a", 2), "s01")
        none = ("map", (("x", ("value", 7)),))
        self.because((S, (none, (0,))), 2, (7,), "s00", "s01", "s02")

    def test_union(self):
        self.because((S, T, (("union",), (0, 1))), 2, A2, "s01", "t10")
        self.because((S, T, (("union",), (1, 0))), 3, B2, "t11")
        self.because((S, (("union",), (0, 0))), 1, A1, "s00")

    def test_group_and_top(self):
        self.because((S, (COUNT, (0,))), 2, ("a", 2), "s00", "s01")
        self.because((S, (COUNT, (0,))), 9, ("a", 3), "s00", "s01", "s03")
        self.because((S, (("group", (), (("n", "sum", "v"),)), (0,))), 2, (4,), "s00", "s01", "s02")
        self.because((S, (("top", ("v",), (("k", "down"),), 1), (0,))), 2, B1, "s00", "s02")

    def test_window_and_first(self):
        window = ("window", ("k",), ("tumble", 5), (("n", "count", None),))
        self.because((S, (window, (0,))), 4, ("a", 0, 5, 2), "s00", "s01")
        self.because((S, (window, (0,))), 9, ("a", 5, 10, 1), "s00", "s01", "s03")
        self.because((S, (("first", ("k",), 3), (0,))), 7, A1, "s00", "s01", "s03")

    def test_join(self):
        on_k, on_both = ("join", (("k", "j"),)), ("join", (("k", "j"), ("v", "w")))
        self.because((S, T, (on_k, (0, 1))), 2, A1 + A2, "s00", "t10")
        self.because((S, T, (on_both, (0, 1))), 5, A2 + A2, "s01", "t10")
        self.because((S, T, (("join", (("w", "v"),)), (1, 0))), 2, A1 + B1, "s02", "t00")

    def test_what_one_side_is_asked_for_is_asked_of_the_other(self):
        # A map leaves out the column of one side, which then is asked for by the pair alone.
        on = (("k", "j"),)
        no_k = ("map", (("v", ("column", "v")), ("j", ("column", "j")), ("w", ("column", "w"))))
        no_j = ("map", (("k", ("column", "k")), ("v", ("column", "v")), ("w", ("column", "w"))))
        logs = {"s": [events((1, A1), (1, B1))], "t": [events((1, A2), (1, B2))]}
        for operator in (("join", on), ("near", on, 0, 0, "inner"), ("asof", on, "inner")):
            self.because((S, T, (operator, (0, 1)), (no_k, (2,))), 1, (1, "a", 2), "s00", "t00", logs=logs)
            self.because((S, T, (operator, (0, 1)), (no_j, (2,))), 1, ("a", 1, 2), "s00", "t00", logs=logs)
        for operator in (("near", on, 0, 0, "left"), ("asof", on, "left")):
            # From side 1 nothing is asked, neither of itself nor of side 0.
            self.because((S, T, (operator, (0, 1)), (no_k, (2,))), 1, (1, "a", 2), "s00", "s01", "t00", "t01",
                         logs=logs)
            self.because((S, T, (operator, (0, 1)), (no_j, (2,))), 1, ("a", 1, 2), "s00", "t00", logs=logs)

    def test_a_column_of_a_side_that_is_no_key(self):
        plan = (S, (COUNT, (0,)), T, (("join", (("k", "j"),)), (1, 2)))
        self.because(plan, 2, ("a", 2, "a", 2), "s00", "s01", "t10")
        plan = (T, S, (COUNT, (1,)), (("join", (("j", "k"),)), (0, 2)))
        self.because(plan, 2, ("a", 2, "a", 2), "s00", "s01", "t10")

    def test_near(self):
        near = ("near", (("k", "j"),), -1, 2, "inner")
        self.because((S, T, (near, (0, 1))), 2, A1 + A2, "s00", "t10")
        self.because((S, T, (near, (0, 1))), 3, B1 + B2, "s02", "t11")
        left = ("near", (("k", "j"),), -1, 2, "left")
        self.because((S, T, (left, (0, 1))), 2, A1 + A2, "s00", "t00", "t10")
        self.because((S, T, (("near", (("k", "j"), ("v", "w")), -1, 2, "left"), (0, 1))), 4, B1 + (None, None), "s02")

    def test_asof(self):
        inner, left = ("asof", (("k", "j"),), "inner"), ("asof", (("k", "j"),), "left")
        self.because((S, T, (inner, (0, 1))), 7, A1 + A2, "s00", "s03", "t10")
        self.because((S, T, (left, (0, 1))), 7, A1 + A2, "s00", "s03", "t00", "t10")
        self.because((S, T, (left, (0, 1))), 2, B1 + (None, None), "s02")

    def test_a_column_that_would_be_asked_for_two_values(self):
        # Side 0 of the union is a map that hands on one column twice: no row of it has 2 and 1.
        twice = ("map", (("x", ("column", "v")), ("y", ("column", "v"))))
        union = ("union",)
        other = ("map", (("x", ("column", "w")), ("y", ("length", ("column", "j")))))
        logs = {"s": [events((1, A1), (1, A2))], "t": [events((1, ("j", 2)), (1, ("jj", 2)))]}
        plan = (S, (twice, (0,)), T, (other, (2,)), (union, (1, 3)))
        self.because(plan, 1, (2, 1), "t00", "t01", logs=logs)
        self.because(plan, 1, (2, 2), "s01", "t00", "t01", logs=logs)
        self.because(plan, 1, (1, 1), "s00", logs=logs)

    def test_two_values_for_a_column_that_would_be_left_out(self):
        # No row of the group has two counts, so it is not asked at all, although it does not look at counts.
        twice = ("map", (("x", ("column", "n")), ("y", ("column", "n"))))
        other = ("map", (("x", ("column", "w")), ("y", ("length", ("column", "j")))))
        logs = {"s": [events((1, A1), (1, A2))], "t": [events((1, ("j", 2)), (1, ("jj", 2)))]}
        plan = (S, (COUNT, (0,)), (twice, (1,)), T, (other, (3,)), (("union",), (2, 4)))
        self.because(plan, 1, (2, 1), "t00", "t01", logs=logs)
        self.because(plan, 1, (2, 2), "s00", "s01", "t00", "t01", logs=logs)
        plan = plan[:5] + ((("union",), (4, 2)),)
        self.because(plan, 1, (2, 1), "t00", "t01", logs=logs)

    def test_two_values_of_the_columns_of_a_pair(self):
        # The join asks its sides for 1 and for 2 in the same column, and both of their answers are empty.
        join = ("join", (("n", "m"),))
        count = ("group", ("j",), (("m", "count", None),))
        pair = ("map", (("x", ("column", "n")), ("y", ("column", "m"))))
        other = ("map", (("x", ("column", "z")), ("y", ("column", "u"))))
        third = (("source", "u", (("z", "whole"), ("u", "whole"))), ())
        plan = (S, (COUNT, (0,)), T, (count, (2,)), (join, (1, 3)), (pair, (4,)), third, (other, (6,)),
                (("union",), (5, 7)))
        logs = {"s": [events((1, A1))], "t": [events((1, A1))], "u": [events((1, (1, 2)), (1, (1, 1)))]}
        self.because(plan, 1, (1, 2), "u00", logs=logs)
        self.because(plan, 1, (1, 1), "s00", "t00", "u01", logs=logs)

    def test_nodes_that_are_asked_again_and_again(self):
        doubled = (S,) + tuple((("union",), (node, node)) for node in range(15))
        logs = {"s": [events(*[(1, ("a", number)) for number in range(300)], (1, A1))]}
        self.same(weight_of(doubled, logs, 1, A1), 2 ** 16)
        self.same(why(doubled, logs, 1, A1), [("s", 0, 1), ("s", 0, 300)])

    def test_true_is_not_1(self):
        flags = (("source", "s", (("k", "flag"), ("v", "whole"))), ())
        logs = {"s": [events((1, (True, 1)), (1, (False, 0)), (1, (None, 0)), (1, (None, 1)))]}
        self.because((flags,), 1, (True, 1), "s00", logs=logs)
        self.because((flags, (("group", ("k",), (("n", "count", None),)), (0,))), 1, (None, 2), "s02", "s03", logs=logs)

    def test_it_is_what_the_document_says(self):
        for seed in range(300):
            numbers = generator_of_numbers(seed)
            plan, logs, flow = random_meaning(numbers)
            for time, row, _ in rows_that_stand(numbers, plan, flow):
                self.same(why(plan, logs, time, row), plain_why(plan, logs, time, row))

    def test_it_tells_the_row_and_so_do_all_places_that_have_them_among_them(self):
        for seed in range(300):
            numbers = generator_of_numbers(seed)
            plan, logs, flow = random_meaning(numbers)
            for time, row, weight in rows_that_stand(numbers, plan, flow):
                places = why(plan, logs, time, row)
                others = [place for place in events_of(logs) if place not in places]
                for share in (0, 0.3, 0.6):
                    more = sorted(places + [place for place in others if numbers.random() < share])
                    self.same(plain_weight(plan, plain_only(logs, more), time, row), weight)
                self.assertTrue(tells(plan, logs, places, time, row))


class LeastWhy(ExactCase):
    def test_rows_that_do_not_stand(self):
        self.same(least_why((S,), {"s": [[]]}, 1, A1), None)

    def test_what_is_left(self):
        logs = {"s": [events((1, A1), (2, A1), (2, A2), (3, B1))]}
        distinct, most = (S, (("distinct",), (0,))), (S, (("group", ("k",), (("n", "most", "v"),)), (0,)))
        self.same(least_why(distinct, logs, 3, A1), [("s", 0, 1)])
        self.same(least_why(most, logs, 3, A2), [("s", 0, 2)])
        self.same(least_why((S, (COUNT, (0,))), logs, 3, ("a", 3)), [("s", 0, 0), ("s", 0, 1), ("s", 0, 2)])
        self.leaves_alone(least_why, distinct, logs, 3, A1)

    def test_more_rounds_than_one(self):
        # The mean of 0, 0 and 2 is 0. As long as 2 is there, no 0 can be left out; behind it in the order stands none.
        logs = {"s": [events((1, ("a", 0)), (1, ("a", 0)), (1, A2))]}
        plan = (S, (("group", ("k",), (("n", "mean", "v"),)), (0,)))
        self.same(least_why(plan, logs, 1, ("a", 0)), [("s", 0, 1)])

    def test_what_can_be_left_out_together_alone(self):
        logs = {"s": [events(*[(1, ("a", number)) for number in (3, 0, -3, 1, 0)])]}
        plan = (S, (("group", ("k",), (("n", "sum", "v"),)), (0,)))
        self.same(least_why(plan, logs, 1, ("a", 1)), [("s", 0, 0), ("s", 0, 2), ("s", 0, 3)])

    def test_what_can_be_left_out_in_a_second_round_alone(self):
        found = 0
        for seed in range(200):
            numbers = generator_of_numbers(seed)
            rows = [("a", numbers.choice((None, 0, 1, 2, -1, -2))) for _ in range(5)]
            logs = {"s": [events(*[(1, row) for row in rows])]}
            plan = (S, (("group", ("k",), (("n", "mean", "v"),)), (0,)))
            (_, row, _), = plain_meaning(plan, logs)
            places = plain_why(plan, logs, 1, row)
            for place in list(places):
                if plain_tells(plan, logs, [other for other in places if other != place], 1, row):
                    places.remove(place)
            found += places != plain_least_why(plan, logs, 1, row)
            self.same(least_why(plan, logs, 1, row), plain_least_why(plan, logs, 1, row))
        self.assertGreater(found, 3)

    def test_by_chance(self):
        for seed in range(200):
            numbers = generator_of_numbers(seed)
            plan, logs, flow = random_meaning(numbers)
            for time, row, _ in rows_that_stand(numbers, plan, flow, 1):
                places = least_why(plan, logs, time, row)
                self.same(places, plain_least_why(plan, logs, time, row))
                self.assertTrue(tells(plan, logs, places, time, row))
                for place in places:
                    self.assertFalse(tells(plan, logs, [other for other in places if other != place], time, row))


class Impact(ExactCase):
    logs = {"s": [events((1, A1), (3, A2)) + [("mark", 2)] + events((2, A1), (5, A1))], "t": [[("mark", 1)]]}

    def test_events_on_time(self):
        plan = (S, (COUNT, (0,)))
        self.same(impact((S,), self.logs, ("s", 0, 1)), [(3, A2, 1)])
        self.same(impact(plan, self.logs, ("s", 0, 0)),
                  [(1, ("a", 1), 1), (3, ("a", 1), -2), (3, ("a", 2), 1), (5, ("a", 1), 1), (5, ("a", 2), -2),
                   (5, ("a", 3), 1)])
        self.same(impact(plan, self.logs, ("s", 0, 4)), [(5, ("a", 2), -1), (5, ("a", 3), 1)])
        self.leaves_alone(impact, plan, self.logs, ("s", 0, 0))

    def test_late_events(self):
        self.same(impact((S, (COUNT, (0,))), self.logs, ("s", 0, 3)), [])

    def test_an_event_of_a_source_that_is_not_in_the_plan(self):
        self.same(impact((S,), {"s": [[]], "x": [events((1, (1,)))]}, ("x", 0, 0)), [])

    def test_what_is_refused(self):
        self.refused(InvalidPlan, "no nodes", impact, (), {}, ("s", 0, 0))
        self.refused(InvalidPlan, "node 1: inputs", impact, (S, (COUNT, (1,))), {}, ("s", 0, 0))
        self.refused(InvalidLogs, "there is no source s", impact, (S,), {}, ("s", 0, 0))
        for place, told in ((("s", 0, 2), "s, 0, 2"), (("t", 0, 0), "t, 0, 0"), (("s", 1, 0), "s, 1, 0"),
                            (("x", 0, 0), "x, 0, 0"), (("s", 0, -1), "s, 0, -1")):
            self.refused(InvalidLogs, f"there is no event at {told}", impact, (S,), self.logs, place)

    def test_by_chance(self):
        for seed in range(150):
            numbers = generator_of_numbers(seed)
            plan, logs, flow = random_meaning(numbers)
            on_time = events_of(logs)
            places = [(name, k, index) for name in logs for k, entries in enumerate(logs[name])
                      for index, entry in enumerate(entries) if entry[0] == "event"]
            for place in numbers.sample(places, min(3, len(places))):
                found = impact(plan, logs, place)
                without = plain_meaning(plan, without_these(logs, [place]))
                self.same(plain_sum(found + without), flow)
                time = logs[place[0]][place[1]][place[2]][1]
                self.assertTrue(all(move[0] >= time for move in found))
                if place not in on_time:
                    self.same(found, [])


if __name__ == "__main__":
    unittest.main()
