"""Points 9, 10 and 11: keys, the hash and the key group."""

import unittest

from tests.support import VALUES, ExactCase, generator_of_numbers
from tideweir.values.keys import GROUPS, group_of, hash_of, key_of

FIELDS = (("a", "whole"), ("b", "text"), ("c", "flag"), ("d", "whole"))


def hash_of_codes(codes):
    """The hash of the codes of all writings, each with the 31 behind it, reckoned as point 10 says."""
    h = 17
    for code in codes:
        h = (31 * h + code) % 1000003
    return h


class Keys(ExactCase):
    def test_columns_in_their_order(self):
        row = (7, "x", True, None)
        self.same(key_of(row, FIELDS, ("a",)), (7,))
        self.same(key_of(row, FIELDS, ("b", "a")), ("x", 7))
        self.same(key_of(row, FIELDS, ("d", "c", "b", "a")), (None, True, "x", 7))
        self.same(key_of(row, FIELDS, ()), ())

    def test_a_column_twice(self):
        self.same(key_of((7, "x", True, None), FIELDS, ("c", "a", "c")), (True, 7, True))

    def test_true_stays_true(self):
        self.same(key_of((1, "", True, 0), FIELDS, ("a", "c", "d")), (1, True, 0))
        self.same(key_of((0, "", False, 1), FIELDS, ("a", "c", "d")), (0, False, 1))

    def test_columns_may_be_a_list(self):
        self.same(key_of((7, "x", True, None), FIELDS, ["b", "c"]), ("x", True))

    def test_arguments_are_left_alone(self):
        self.leaves_alone(key_of, (7, "x", True, None), FIELDS, ["b", "a"])
        self.leaves_alone(hash_of, [1, "a", None])
        self.leaves_alone(group_of, [1, "a", None])


class Hash(ExactCase):
    def test_of_nothing(self):
        self.same(hash_of([]), 17)
        self.same(hash_of(()), 17)

    def test_of_none_false_and_true(self):
        # 31 * (31 * 17 + 110) + 31, and so on: all of it is below 1000003.
        self.same(hash_of([None]), 31 * (31 * 17 + 110) + 31)
        self.same(hash_of([False]), 31 * (31 * 17 + 102) + 31)
        self.same(hash_of([True]), 31 * (31 * 17 + 116) + 31)
        self.same(hash_of([None]), 19778)

    def test_of_integers(self):
        self.same(hash_of([0]), hash_of_codes([35, 48, 31]))
        self.same(hash_of([7]), hash_of_codes([35, 55, 31]))
        self.same(hash_of([-7]), hash_of_codes([35, 45, 55, 31]))
        self.same(hash_of([120]), hash_of_codes([35, 49, 50, 48, 31]))
        self.same(hash_of([10 ** 9]), hash_of_codes([35, 49] + [48] * 9 + [31]))
        self.same(hash_of([-10 ** 9]), hash_of_codes([35, 45, 49] + [48] * 9 + [31]))

    def test_of_texts(self):
        self.same(hash_of([""]), hash_of_codes([34, 31]))
        self.same(hash_of(["a"]), hash_of_codes([34, 97, 31]))
        self.same(hash_of(['"']), hash_of_codes([34, 34, 31]))
        self.same(hash_of(['a"b']), hash_of_codes([34, 97, 34, 98, 31]))
        self.same(hash_of([" ~"]), hash_of_codes([34, 32, 126, 31]))
        self.same(hash_of(["\\'"]), hash_of_codes([34, 92, 39, 31]))

    def test_the_remainder_is_taken(self):
        self.same(hash_of(["ab"]), 808989)
        self.same(hash_of(["abc"]), 80723)
        for k in range(200):
            self.assertTrue(0 <= hash_of([k, "x", None]) < 1000003)

    def test_of_several_values(self):
        self.same(hash_of([1, "b", None]), hash_of_codes([35, 49, 31, 34, 98, 31, 110, 31]))
        self.same(hash_of([True, False]), hash_of_codes([116, 31, 102, 31]))
        self.assertNotEqual(hash_of([1, 2]), hash_of([2, 1]))
        self.assertNotEqual(hash_of(["a", "b"]), hash_of(["ab"]))

    def test_a_list_and_a_tuple(self):
        for values in ([], [None], [1, "a"], [True, 1, "1", None, False]):
            self.same(hash_of(values), hash_of(tuple(values)))
            self.same(group_of(values), group_of(tuple(values)))

    def test_values_that_python_takes_for_equal(self):
        self.assertNotEqual(hash_of([True]), hash_of([1]))
        self.assertNotEqual(hash_of([False]), hash_of([0]))
        self.assertNotEqual(hash_of(["t"]), hash_of([True]))
        self.assertNotEqual(hash_of(["1"]), hash_of([1]))


class Groups(ExactCase):
    def test_how_many_there_are(self):
        self.same(GROUPS, 16)

    def test_the_remainder_of_the_hash(self):
        self.same(group_of([]), 1)
        self.same(group_of([None]), 19778 % 16)
        for value in VALUES:
            self.same(group_of([value]), hash_of([value]) % 16)
            self.same(group_of((value, 1, "a")), hash_of([value, 1, "a"]) % 16)

    def test_every_group_is_met(self):
        self.assertEqual({group_of([k]) for k in range(200)}, set(range(16)))

    def test_equal_keys_have_one_group(self):
        numbers = generator_of_numbers(3)
        for _ in range(100):
            key = tuple(numbers.choice(VALUES) for _ in range(numbers.randint(1, 4)))
            row = key + ("behind",)
            fields = tuple(("c" + str(k), "whole") for k in range(len(row)))
            other = key_of(row, fields, [name for name, _ in fields[:-1]])
            self.same(other, key)
            self.same(group_of(other), group_of(list(key)))


if __name__ == "__main__":
    unittest.main()
