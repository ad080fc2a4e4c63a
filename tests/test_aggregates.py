"""Point 25: aggregates of values with weights."""

import unittest

from tests.plain_operators import plain_aggregate
from tests.support import VALUES, ExactCase, generator_of_numbers
from tideweir.operators.aggregates import aggregate

MOST = 10 ** 9
WORDS = ("count", "sum", "least", "most", "mean", "first", "last")


class Aggregates(ExactCase):
    def gives(self, word, values, wanted):
        self.same(aggregate(word, values), wanted)

    def test_count(self):
        self.gives("count", [(0, 1)], 1)
        self.gives("count", [(0, 2), (0, 3), (0, 1)], 6)
        self.gives("count", [("a", 2), (None, 5), ("b", 1), (False, 4), ("", 8)], 15)
        self.gives("count", [(None, 5), (None, 1)], 0)
        self.gives("count", [], 0)

    def test_sum(self):
        self.gives("sum", [(5, 1), (7, 3), (-2, 2), (None, 4)], 22)
        self.gives("sum", [(5, 1), (-5, 1)], 0)
        self.gives("sum", [(0, 9)], 0)
        self.gives("sum", [(None, 1), (None, 2)], None)
        self.gives("sum", [], None)

    def test_least_and_most(self):
        self.gives("least", [(5, 1), (None, 1), (-7, 2), (3, 9)], -7)
        self.gives("most", [(5, 1), (None, 1), (-7, 2), (3, 9)], 5)
        self.gives("least", [("b", 1), ("ab", 1), ("", 1), ("~", 1)], "")
        self.gives("most", [("b", 1), ("ab", 1), ("", 1), ("B", 1)], "b")
        self.gives("least", [(True, 1), (None, 3), (False, 1)], False)
        self.gives("most", [(False, 5), (True, 1), (None, 3)], True)
        self.gives("most", [(False, 5)], False)
        self.gives("least", [(10, 1), (9, 1)], 9)
        self.gives("most", [(10, 1), (9, 1)], 10)
        for word in ("least", "most"):
            self.gives(word, [(None, 1)], None)
            self.gives(word, [], None)
            self.gives(word, [(0, 1)], 0)

    def test_mean(self):
        self.gives("mean", [(5, 1), (8, 1)], 6)
        self.gives("mean", [(5, 1), (7, 1)], 6)
        self.gives("mean", [(5, 1), (8, 3)], 7)
        self.gives("mean", [(1, 1), (None, 7), (2, 1)], 1)
        self.gives("mean", [(-1, 1), (-2, 1)], -2)
        self.gives("mean", [(-1, 1), (0, 2)], -1)
        self.gives("mean", [(-3, 1), (0, 2)], -1)
        self.gives("mean", [(-4, 1), (0, 2)], -2)
        self.gives("mean", [(1, 1), (0, 1)], 0)
        self.gives("mean", [(0, 4)], 0)
        self.gives("mean", [(None, 4)], None)
        self.gives("mean", [], None)

    def test_first_and_last(self):
        self.gives("first", [(3, 1), (1, 5), (2, 1)], 3)
        self.gives("last", [(3, 1), (1, 5), (2, 1)], 2)
        self.gives("first", [(None, 1), (1, 1)], None)
        self.gives("last", [(1, 1), (None, 1)], None)
        self.gives("first", [("a", 1), (None, 1)], "a")
        self.gives("last", [(None, 1), (True, 1)], True)
        self.gives("first", [(False, 2)], False)
        self.gives("last", [(0, 2)], 0)

    def test_just_within_the_bounds(self):
        self.gives("sum", [(MOST, 1)], MOST)
        self.gives("sum", [(-MOST, 1)], -MOST)
        self.gives("sum", [(MOST - 1, 1), (1, 1)], MOST)
        self.gives("sum", [(1 - MOST, 1), (-1, 1)], -MOST)
        self.gives("sum", [(500000000, 2)], MOST)
        self.gives("count", [("a", MOST)], MOST)
        self.gives("count", [(0, MOST - 1), (None, 5), (0, 1)], MOST)
        self.gives("mean", [(MOST, 3)], MOST)
        self.gives("mean", [(-MOST, 3)], -MOST)

    def test_beyond_the_bounds(self):
        self.gives("sum", [(MOST, 1), (1, 1)], None)
        self.gives("sum", [(-MOST, 1), (-1, 1)], None)
        self.gives("sum", [(500000001, 2)], None)
        self.gives("count", [(0, MOST), (0, 1)], None)
        self.gives("count", [("a", MOST + 1)], None)
        self.gives("count", [(0, MOST), (None, 1)], MOST)

    def test_sums_that_come_back(self):
        self.gives("sum", [(MOST, 3), (-MOST, 3), (4, 1)], 4)
        self.gives("mean", [(MOST, 2), (MOST - 3, 1)], MOST - 1)
        self.gives("mean", [(-MOST, 2), (3 - MOST, 1)], 1 - MOST)
        self.gives("mean", [(MOST, MOST), (0, 2)], MOST - 2)

    def test_as_often_as_the_weight_says(self):
        numbers = generator_of_numbers(52)
        whole = [value for value in VALUES if value is None or type(value) is int]
        for _ in range(300):
            word = numbers.choice(WORDS)
            values = numbers.choice((whole, [None, "", "a", "b", "ab"], [None, True, False]))
            if word in ("sum", "mean"):
                values = whole
            pairs = [(numbers.choice(values), numbers.randint(1, 4)) for _ in range(numbers.randint(1, 5))]
            self.gives(word, pairs, plain_aggregate(word, pairs))

    def test_arguments_are_left_alone(self):
        for word in WORDS:
            self.leaves_alone(aggregate, word, [(3, 1), (None, 2), (1, 3)])


if __name__ == "__main__":
    unittest.main()
