"""Point 75: owners of key groups for other numbers of tasks."""

import unittest
from itertools import combinations

from tests.support import ExactCase, generator_of_numbers
from tideweir.graphs.laying import even_owners
from tideweir.shifts.owners import owners_for

ONE = (0,) * 16
TWO = (0,) * 8 + (1,) * 8
ODD = (0, 1) * 8
THREE = (0,) * 6 + (1,) * 5 + (2,) * 5
FOUR = (0,) * 4 + (1,) * 4 + (2,) * 4 + (3,) * 4


def is_even(owners, parallel):
    """Whether owners are even over a number of tasks."""
    many = [owners.count(task) for task in range(parallel)]
    return sum(many) == 16 and max(many) - min(many) <= 1


def differences(a, b):
    """At how many places two owners differ."""
    return sum(x != y for x, y in zip(a, b))


def all_even_over_two():
    """All owners that are even over two tasks."""
    for groups in combinations(range(16), 8):
        yield tuple(0 if group in groups else 1 for group in range(16))


class Owners(ExactCase):
    def given(self, owners, parallel, wanted):
        self.same(owners_for(owners, parallel), wanted)
        self.leaves_alone(owners_for, owners, parallel)

    def test_one_task(self):
        for owners in (ONE, TWO, FOUR, (3,) * 16):
            self.given(owners, 1, ONE)

    def test_owners_that_are_even_stay(self):
        for owners, parallel in ((ONE, 1), (TWO, 2), (ODD, 2), (THREE, 3), ((2, 1, 0) * 5 + (1,), 3), (FOUR, 4),
                                 ((3, 0, 2, 1) * 4, 4)):
            self.given(owners, parallel, owners)

    def test_more_tasks(self):
        self.given(ONE, 2, TWO)
        self.given(ONE, 3, THREE)
        self.given(ONE, 4, FOUR)
        self.given(ODD, 3, (0, 1) * 5 + (0, 2) + (2,) * 4)
        self.given(TWO, 4, (0,) * 4 + (2,) * 4 + (1,) * 4 + (3,) * 4)
        self.given(TWO, 3, (0,) * 6 + (2,) * 2 + (1,) * 5 + (2,) * 3)

    def test_fewer_tasks(self):
        self.given(FOUR, 2, (0,) * 4 + (1,) * 4 + (0,) * 4 + (1,) * 4)
        self.given(FOUR, 3, (0,) * 4 + (1,) * 4 + (2,) * 4 + (0, 0, 1, 2))
        self.given(THREE, 2, (0,) * 6 + (1,) * 5 + (0,) * 2 + (1,) * 3)
        self.given((1,) * 16, 1, ONE)

    def test_the_least_of_several(self):
        self.given((1,) * 16, 2, TWO)
        self.given((3,) * 16, 3, THREE)
        self.given((2,) * 16, 3, (0,) * 5 + (1,) * 5 + (2,) * 6)
        self.given((3,) * 15 + (0,), 2, (0,) * 7 + (1,) * 8 + (0,))
        self.given((3,) * 16, 4, FOUR)

    def test_which_task_owns_one_more(self):
        self.given((0,) * 5 + (1,) * 5 + (2,) * 6, 3, (0,) * 5 + (1,) * 5 + (2,) * 6)
        self.given((0,) * 4 + (1,) * 6 + (2,) * 6, 3, (0,) * 4 + (0,) + (1,) * 5 + (2,) * 6)
        self.given((0,) * 6 + (1,) * 6 + (2,) * 4, 3, (0,) * 6 + (1,) * 5 + (2,) * 5)

    def test_two_tasks_against_all_that_are_even(self):
        even = list(all_even_over_two())
        for seed in range(25):
            numbers = generator_of_numbers(seed)
            owners = tuple(numbers.randrange(4) for _ in range(16))
            self.same(owners_for(owners, 2), min(even, key=lambda other: (differences(owners, other), other)))

    def test_by_chance(self):
        for seed in range(150):
            numbers = generator_of_numbers(seed)
            owners = tuple(numbers.randrange(numbers.randint(1, 4)) for _ in range(16))
            # More tasks than a stage has bring more ways to deal out the larger shares.
            for parallel in (1, 2, 3, 4, 6, 7):
                found = owners_for(owners, parallel)
                self.assertTrue(is_even(found, parallel))
                self.assertEqual(differences(owners, found), fewest(owners, parallel))
                self.assertFalse(is_one_less(owners, found, parallel))

    def test_from_even_owners_there_and_back(self):
        for many in range(1, 5):
            for parallel in range(1, 5):
                found = owners_for(even_owners(many), parallel)
                self.assertTrue(is_even(found, parallel))

    def test_somewhat_beyond(self):
        self.given(FOUR, 5, (0, 0, 0, 0, 1, 1, 1, 4, 2, 2, 2, 4, 3, 3, 3, 4))


def fewest(owners, parallel):
    """At how many places even owners have to differ: what is above the shares, whichever tasks have the larger one."""
    share, larger = divmod(16, parallel)
    return min(16 - sum(min(owners.count(task), share + (task in chosen)) for task in range(parallel))
               for chosen in combinations(range(parallel), larger))


def is_one_less(owners, found, parallel):
    """Whether there is a lesser one that differs as little, by one place changed or two places exchanged."""
    others = [found[:place] + (task,) + found[place + 1:] for place in range(16) for task in range(parallel)]
    for a, b in combinations(range(16), 2):
        others.append(found[:a] + (found[b],) + found[a + 1:b] + (found[a],) + found[b + 1:])
    return any(other < found and is_even(other, parallel) and
               differences(owners, other) <= differences(owners, found) for other in others)


if __name__ == "__main__":
    unittest.main()
