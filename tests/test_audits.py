"""Point 87: audits of flows."""

import unittest

from tests.random_operators import random_row_of
from tests.plain_meanings import up_to
from tests.plain_operators import plain_sum, same
from tests.random_witnesses import random_meaning
from tests.support import ExactCase, generator_of_numbers
from tideweir.errors import InvalidLogs, InvalidPlan
from tideweir.plans.plans import fields_of
from tideweir.witnesses.audits import Breach, audit

S = (("source", "s", (("k", "text"), ("v", "whole"))), ())
COUNT = ("group", ("k",), (("n", "count", None),))
PLAN = (S, (COUNT, (0,)))
LOGS = {"s": [[("event", 1, ("a", 1)), ("event", 3, ("b", 1)), ("event", 3, ("a", 2)), ("mark", 3),
               ("event", 2, ("a", 1)), ("event", 6, ("b", 1))]]}
FLOW = [(1, ("a", 1), 1), (3, ("a", 1), -1), (3, ("a", 2), 1), (3, ("b", 1), 1), (6, ("b", 1), -1), (6, ("b", 2), 1)]


class Audits(ExactCase):
    def breach(self, flow, mark, time, row, has, should):
        found = audit(PLAN, LOGS, flow, mark)
        self.assertIs(type(found), Breach)
        self.same((found.time, found.row, found.has, found.should), (time, row, has, should))

    def test_flows_that_pass(self):
        for mark, many in ((1000000, 6), (6, 6), (5, 4), (3, 4), (2, 1), (1, 1), (0, 0), (-1, 0)):
            self.same(audit(PLAN, LOGS, FLOW[:many], mark), None)

    def test_a_move_that_lacks(self):
        for k, (time, row, weight) in enumerate(FLOW):
            self.breach(FLOW[:k] + FLOW[k + 1:], 1000000, time, row, 0, weight)

    def test_a_move_that_is_heavier_or_lighter(self):
        for k, (time, row, weight) in enumerate(FLOW):
            for other in (weight + 1, weight - 1 or 7, -weight):
                self.breach(FLOW[:k] + [(time, row, other)] + FLOW[k + 1:], 6, time, row, other, weight)

    def test_a_move_that_is_too_much(self):
        self.breach([(0, ("z", 9), 4)] + FLOW, 6, 0, ("z", 9), 4, 0)
        self.breach(FLOW[:1] + [(2, ("a", 1), -3)] + FLOW[1:], 6, 2, ("a", 1), -3, 0)
        self.breach(FLOW + [(9, ("a", 1), 1)], 1000000, 9, ("a", 1), 1, 0)

    def test_what_is_above_the_mark(self):
        self.breach(FLOW, 5, 6, ("b", 1), -1, 0)
        self.breach(FLOW, -1, 1, ("a", 1), 1, 0)
        self.breach(FLOW[:4], 6, 6, ("b", 1), 0, -1)

    def test_the_first_one(self):
        self.breach(FLOW[:1] + FLOW[2:], 6, 3, ("a", 1), 0, -1)
        self.breach([(1, ("a", 1), 2), (3, ("b", 1), 5)], 6, 1, ("a", 1), 2, 1)
        self.breach([(1, ("a", 1), 1), (3, (None, 1), 5)], 6, 3, (None, 1), 5, 0)
        self.breach([], 1000000, 1, ("a", 1), 0, 1)

    def test_true_is_not_1(self):
        self.breach([(1, ("a", True), 1)] + FLOW[1:], 6, 1, ("a", True), 1, 0)

    def test_arguments_are_left_alone(self):
        before = repr((PLAN, LOGS, FLOW))
        audit(PLAN, LOGS, FLOW, 5)
        self.assertEqual(repr((PLAN, LOGS, FLOW)), before)

    def test_a_breach(self):
        breach = Breach(3, ("a", 1), 0, -1)
        self.same((breach.time, breach.row, breach.has, breach.should), (3, ("a", 1), 0, -1))

    def test_what_is_refused(self):
        self.refused(InvalidPlan, "no nodes", audit, (), {}, [], 5)
        self.refused(InvalidPlan, "node 0: inputs", audit, ((COUNT, (0,)),), {}, [], 5)
        self.refused(InvalidPlan, "node 1: inputs", audit, (S, (COUNT, (1,))), {}, [], 5)
        self.refused(InvalidLogs, "there is no source s", audit, PLAN, {}, [], 5)
        self.refused(InvalidLogs, "s has other fields", audit, PLAN, {"s": [[], [("event", 1, ("a", "b"))]]}, [], 5)

    def test_by_chance(self):
        for seed in range(150):
            numbers = generator_of_numbers(seed)
            plan, logs, flow = random_meaning(numbers)
            mark = numbers.randint(-1, 40)
            wanted = up_to(flow, mark)
            self.same(audit(plan, logs, wanted, mark), None)
            fields = fields_of(plan)[-1][0]
            changes = [(numbers.randrange(40), random_row_of(numbers, fields), numbers.choice((-2, -1, 1, 2)))
                       for _ in range(3)]
            if wanted:
                time, row, weight = numbers.choice(wanted)
                changes.append((time, row, -weight))
            changes = plain_sum(changes)
            given = plain_sum(wanted + changes)
            if not changes:
                continue
            found, (time, row, _) = audit(plan, logs, given, mark), changes[0]
            weights = [sum(move[2] for move in moves if move[0] == time and same(move[1], row))
                       for moves in (given, wanted)]
            self.same((found.time, found.row, found.has, found.should), (time, row, *weights))


if __name__ == "__main__":
    unittest.main()
