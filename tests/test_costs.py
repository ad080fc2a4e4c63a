"""Points 46 and 47: guesses, costs, and the search for a cheap plan."""

import unittest

from tests.plain_rules import plain_steps
from tests.random_plans import random_flows, random_plan
from tests.support import ExactCase, generator_of_numbers
from tideweir.plans.costs import Search, cost, guesses
from tideweir.plans.plans import fields_of, meaning
from tideweir.plans.rules import check_certificate
from tideweir.plans.tidying import tidied

LEFT = (("a", "whole"), ("b", "text"), ("c", "flag"))
RIGHT = (("d", "whole"), ("e", "text"))
S, T = (("source", "s", LEFT), ()), (("source", "t", RIGHT), ())
COUNT = ("n", "count", None)
ON = (("a", "d"),)
BY_C = ("filter", ("column", "c"))
TO = ("map", (("x", ("column", "a")),))
OF_ONE = {
    "filter": BY_C, "map": TO, "distinct": ("distinct",), "group": ("group", ("a",), (COUNT,)),
    "first": ("first", ("a",), 5), "tumble": ("window", (), ("tumble", 7), (COUNT,)),
    "session": ("window", (), ("session", 7), (COUNT,)),
}
NAMES = ("s", "t", "u")


def top(n):
    """A top of n."""
    return ("top", (), (("a", "up"),), n)


def hop(size, slide):
    """A window that hops."""
    return ("window", (), ("hop", size, slide), (COUNT,))


def up(number, divisor):
    """A quotient, rounded up, reckoned in another way than in the program."""
    return number // divisor + (number % divisor > 0)


def plain_guess(operator, numbers, stats):
    """The guess of a node."""
    word, first = operator[0], numbers[0] if numbers else None
    table = {
        "source": lambda: stats[operator[1]] if operator[1] in stats else 0,
        "filter": lambda: up(first, 3), "map": lambda: first, "distinct": lambda: first, "asof": lambda: first,
        "union": lambda: sum(numbers), "group": lambda: up(first, 2), "first": lambda: up(first, 2),
        "top": lambda: min(first, up(operator[3] * first, 4)), "near": lambda: up(numbers[0] * numbers[1], 10),
        "join": lambda: up(numbers[0] * numbers[1], 10),
        "window": lambda: up(first, 2) * (up(operator[2][1], operator[2][2]) if operator[2][0] == "hop" else 1)}
    return table[word]()


def plain_cost(plan, stats):
    """The cost of a tidy plan."""
    told, total, fields = [], 0, fields_of(plan)
    for operator, inputs in plan:
        told.append(plain_guess(operator, [told[node] for node in inputs], stats))
        for node in inputs:
            times = 1 if operator[0] in ("filter", "map", "union", "distinct") else 2
            total += times * told[node] * len(fields[node][0])
    return total


def plain_search(plan):
    """The plans of the search, with the steps that lead to each."""
    found, at = [(plan, [])], 0
    while at < len(found):
        for step, changed in plain_steps(found[at][0]):
            if len(found) < 30 and repr(changed) not in [repr(other) for other, _ in found]:
                found.append((changed, found[at][1] + [step]))
        at += 1
    return found


class Guesses(ExactCase):
    def of_one(self, operator, numbers, wanted):
        found = [guesses((S, (operator, (0,))), {"s": number})[1] for number in numbers]
        self.same(found, wanted)

    def of_two(self, operator, numbers, wanted):
        found = [guesses((S, T, (operator, (0, 1))), {"s": one, "t": other})[2] for one, other in numbers]
        self.same(found, wanted)

    def test_sources(self):
        self.same(guesses((S, T), {"s": 5, "t": 7}), [5, 7])
        self.same(guesses((S, T), {"t": 7}), [0, 7])
        self.same(guesses((S,), {}), [0])
        self.same(guesses((S,), {"x": 4, "s": 0}), [0])

    def test_operators_of_one_side(self):
        numbers = (0, 1, 2, 3, 4, 5, 6, 7, 100)
        self.of_one(OF_ONE["filter"], numbers, [0, 1, 1, 1, 2, 2, 2, 3, 34])
        for word in ("map", "distinct"):
            self.of_one(OF_ONE[word], numbers, list(numbers))
        for word in ("group", "first", "tumble", "session"):
            self.of_one(OF_ONE[word], numbers, [0, 1, 1, 2, 2, 3, 3, 4, 50])

    def test_top(self):
        numbers = (0, 1, 2, 3, 4, 5, 6, 10)
        self.of_one(top(1), numbers, [0, 1, 1, 1, 1, 2, 2, 3])
        self.of_one(top(2), numbers, [0, 1, 1, 2, 2, 3, 3, 5])
        self.of_one(top(3), numbers, [0, 1, 2, 3, 3, 4, 5, 8])
        for n in (4, 5, 20):
            self.of_one(top(n), numbers, list(numbers))

    def test_windows_that_hop(self):
        numbers = (0, 1, 3, 4, 9)
        self.of_one(hop(6, 6), numbers, [0, 1, 2, 2, 5])
        self.of_one(hop(6, 3), numbers, [0, 2, 4, 4, 10])
        self.of_one(hop(7, 3), numbers, [0, 3, 6, 6, 15])
        self.of_one(hop(6, 5), numbers, [0, 2, 4, 4, 10])
        self.of_one(hop(20, 1), numbers, [0, 20, 40, 40, 100])

    def test_operators_of_two_sides(self):
        numbers = ((0, 0), (0, 9), (1, 1), (2, 5), (3, 7), (10, 10), (11, 3), (7, 0))
        for operator in (("join", ON), ("near", ON, 0, 5, "inner"), ("near", ON, 0, 5, "left")):
            self.of_two(operator, numbers, [0, 0, 1, 1, 3, 10, 4, 0])
        for keep in ("inner", "left"):
            self.of_two(("asof", ON, keep), numbers, [one for one, _ in numbers])
        plan = (S, (BY_C, (0,)), (("union",), (0, 1)))
        self.same([guesses(plan, {"s": number})[2] for number in (0, 1, 4)], [0, 2, 6])

    def test_node_by_node(self):
        plan = (S, (BY_C, (0,)), (BY_C, (1,)), T, (("join", ON), (2, 3)), (("group", ("a",), (COUNT,)), (4,)), S)
        self.same(guesses(plan, {"s": 100, "t": 30}), [100, 34, 12, 30, 36, 18, 100])

    def test_they_are_what_the_document_says(self):
        numbers = generator_of_numbers(90)
        for _ in range(150):
            plan, stats = random_plan(numbers), {name: numbers.randint(0, 40) for name in numbers.sample(NAMES, 2)}
            wanted = []
            for operator, inputs in plan:
                wanted.append(plain_guess(operator, [wanted[node] for node in inputs], stats))
            self.same(guesses(plan, stats), wanted)

    def test_arguments_are_left_alone(self):
        self.leaves_alone(guesses, (S, (BY_C, (0,))), {"s": 5})
        self.leaves_alone(cost, (S, (BY_C, (0,))), {"s": 5})


class Costs(ExactCase):
    def test_of_one_node(self):
        self.same(cost((S,), {"s": 100}), 0)
        for word, operator in OF_ONE.items():
            self.same(cost((S, (operator, (0,))), {"s": 10}), 30 if word in ("filter", "map", "distinct") else 60)
        self.same(cost((S, (top(3), (0,))), {"s": 10}), 60)
        self.same(cost((S, (hop(6, 2), (0,))), {"s": 10}), 60)
        self.same(cost((S, (BY_C, (0,))), {}), 0)

    def test_of_two_sides(self):
        for operator in (("join", ON), ("near", ON, 0, 1, "left"), ("asof", ON, "inner")):
            self.same(cost((S, T, (operator, (0, 1))), {"s": 10, "t": 7}), 2 * (30 + 14))
        self.same(cost((S, (BY_C, (0,)), (("union",), (0, 1))), {"s": 10}), 30 + 30 + 12)

    def test_of_the_tidied_plan(self):
        plan = (S, S, T, (BY_C, (0,)), (BY_C, (1,)), (("distinct",), (2,)), (("union",), (3, 4)))
        self.same(cost(plan, {"s": 10, "t": 1000}), 30 + 2 * 12)
        self.same(cost(tidied(plan), {"s": 10}), 30 + 2 * 12)

    def test_they_are_what_the_document_says(self):
        numbers = generator_of_numbers(91)
        for _ in range(150):
            plan, stats = random_plan(numbers), {name: numbers.randint(0, 40) for name in numbers.sample(NAMES, 2)}
            self.same(cost(plan, stats), plain_cost(plan, stats))
            self.same(cost(plan + (plan[0], plan[-1]), stats) if len(plan) < 15 else plain_cost(plan, stats),
                      plain_cost(plan, stats))


class Searching(ExactCase):
    PLAN = (S, T, (("join", ON), (0, 1)), (BY_C, (2,)), (("group", ("b",), (COUNT,)), (3,)))

    def test_a_plan_without_steps(self):
        search = Search((S,), {"s": 5})
        self.same((search.best, search.least, search.seen, search.steps(), list(search)), ((S,), 0, 1, [], [(S,)]))

    def test_few_plans(self):
        plan = (S, (("map", (("x", ("column", "c")), ("y", ("column", "a")))), (0,)), (("filter", ("column", "x")),
                                                                                    (1,)))
        search = Search(plan, {"s": 9})
        other = (S, (BY_C, (0,)), (plan[1][0], (1,)))
        self.same(list(search), [plan, other])
        self.same((search.best, search.least, search.seen, search.steps()), (other, 36, 2, [("under map", 2)]))
        self.same(cost(plan, {"s": 9}), 45)

    def test_the_first_one_of_least_cost(self):
        plan = (S, (BY_C, (0,)), (("distinct",), (1,)))
        for stats in ({}, {"s": 0}):
            search = Search((S, (("map", (("c", ("column", "c")),)), (0,)), (BY_C, (1,))), stats)
            self.same((search.seen, search.least, search.best, search.steps()), (2, 0, list(search)[0], []))
        self.same(Search(plan, {"s": 6}).best, plan)

    def test_from_a_plan_that_is_not_tidy(self):
        plan = (T, S, S, (BY_C, (2,)), (BY_C, (3,)))
        search = Search(plan, {"s": 9})
        self.same(list(search), [(S, (BY_C, (0,)), (BY_C, (1,))),
                                 (S, (("filter", ("binary", "and", BY_C[1], BY_C[1])), (0,)))])
        self.same(search.steps(), [("filters", 2)])
        self.same(search.least, 27)

    def test_a_better_plan(self):
        search = Search(self.PLAN, {"s": 30, "t": 90})
        self.same(search.best, list(search)[[cost(plan, {"s": 30, "t": 90}) for plan in search].index(search.least)])
        self.assertLess(search.least, cost(self.PLAN, {"s": 30, "t": 90}))
        self.same(check_certificate(self.PLAN, search.steps(), search.best), None)

    def test_thirty_plans(self):
        search = Search(self.PLAN, {"s": 30, "t": 90})
        self.same((search.seen, len(list(search))), (30, 30))

    def test_they_are_what_the_document_says(self):
        numbers = generator_of_numbers(92)
        met = set()
        for _ in range(80):
            plan, stats = random_plan(numbers, 5), {name: numbers.randint(0, 40) for name in NAMES}
            search, wanted = Search(plan, stats), plain_search(plan)
            self.same(list(search), [found for found, _ in wanted])
            self.same(search.seen, len(wanted))
            costs = [plain_cost(found, stats) for found, _ in wanted]
            self.same((search.least, search.best, search.steps()), (min(costs), *wanted[costs.index(min(costs))]))
            self.same(check_certificate(plan, search.steps(), search.best), None)
            flows = random_flows(numbers)
            self.same(meaning(search.best, flows), meaning(plan, flows))
            met.add(len(wanted))
        self.assertTrue({1, 2, 30} <= met and len(met) > 6)

    def test_nothing_that_was_handed_in_or_out_is_kept(self):
        stats = {"s": 30, "t": 90}
        search = Search(self.PLAN, stats)
        self.same(stats, {"s": 30, "t": 90})
        told = repr((search.best, search.least, search.steps(), list(search)))
        stats.clear()
        search.steps().clear()
        list(search).clear()
        self.same((search.best, search.least, search.steps(), list(search)), eval(told))


if __name__ == "__main__":
    unittest.main()
