"""Points 5, 6, 7 and 11: the order of values and of rows."""

import unittest
from itertools import product

from tests.support import VALUES, ExactCase, generator_of_numbers, is_ahead, is_row_ahead
from tideweir.values.order import row_order, same_rows, value_order


class ValueOrder(ExactCase):
    def test_the_kinds_follow_one_another(self):
        rising = [None, False, True, -10 ** 9, -1, 0, 1, 10 ** 9, "", " ", "0", "A", "a", "~"]
        for k, one in enumerate(rising):
            for other in rising[k + 1:]:
                self.assertLess(value_order(one), value_order(other))

    def test_integers_of_many_sizes_and_both_signs(self):
        rising = [-10 ** 9, -999999999, -100, -99, -11, -10, -9, -2, -1, 0, 1, 2, 9, 10, 11, 99, 100, 999999999]
        self.same(sorted(rising[::-1], key=value_order), rising)

    def test_texts_one_of_which_is_the_beginning_of_another(self):
        rising = ["", " ", "  ", "A", "Ab", "B", "a", "a ", "a!", "aa", "aaa", "ab", "b", "~", "~~"]
        self.same(sorted(rising[::-1], key=value_order), rising)
        self.same(sorted(rising, key=value_order), rising)

    def test_true_is_not_1_and_false_is_not_0(self):
        self.assertNotEqual(value_order(True), value_order(1))
        self.assertNotEqual(value_order(False), value_order(0))
        self.assertLess(value_order(True), value_order(-5))
        self.assertLess(value_order(False), value_order(True))
        self.assertNotEqual(value_order("1"), value_order(1))
        self.assertNotEqual(value_order(None), value_order(False))
        self.assertNotEqual(value_order(""), value_order(None))

    def test_of_any_two_values_just_one_is_ahead_or_they_are_the_same(self):
        for a, b in product(VALUES, VALUES):
            self.assertEqual(value_order(a) < value_order(b), is_ahead(a, b), (a, b))
            self.assertEqual(value_order(a) > value_order(b), is_ahead(b, a), (a, b))
            self.assertEqual(value_order(a) == value_order(b), repr(a) == repr(b), (a, b))

    def test_it_is_a_tuple_of_integers_and_strings(self):
        for value in VALUES:
            order = value_order(value)
            self.assertIs(type(order), tuple)
            for item in order:
                self.assertIn(type(item), (int, str))

    def test_somewhat_beyond_the_limits_nothing_is_raised(self):
        self.assertLess(value_order(10 ** 9), value_order(10 ** 9 + 1))
        self.assertLess(value_order(10 ** 10), value_order("x" * 50))


class RowOrder(ExactCase):
    def test_place_by_place(self):
        rising = [(None, "z"), (False, "z"), (True, 0), (True, 1), (0, None), (1, None), (1, False), (1, 2),
                  (1, "a"), (2, None), ("a", 1), ("b", 0)]
        self.same(sorted(rising[::-1], key=row_order), rising)

    def test_the_beginning_of_a_row_is_ahead_of_it(self):
        rising = [(1,), (1, None), (1, None, None), (1, False), (1, 0), (1, ""), (2,), (2, None)]
        self.same(sorted(rising[::-1], key=row_order), rising)
        self.assertLess(row_order(()), row_order((None,)))

    def test_a_text_does_not_run_into_the_next_place(self):
        rising = [("a", "b", "c"), ("a", "bc"), ("ab", "c")]
        self.same(sorted(rising[::-1], key=row_order), rising)
        self.assertLess(row_order((None, 5)), row_order((False,)))
        self.assertLess(row_order((3, "x")), row_order((4,)))

    def test_rows_of_8_values(self):
        row = (None, False, True, 0, 1, "", "a", "b")
        for k in range(8):
            for value in (None, "~"):
                other = row[:k] + (value,) + row[k + 1:]
                self.assertEqual(row_order(row) < row_order(other), is_row_ahead(row, other))
                self.assertEqual(row_order(other) < row_order(row), is_row_ahead(other, row))

    def test_it_is_total(self):
        numbers = generator_of_numbers(7)
        values = (None, False, True, -1, 0, 1, 2, "", "0", "a", "aa")
        rows = [tuple(numbers.choice(values) for _ in range(numbers.randint(0, 4))) for _ in range(120)]
        for a, b in product(rows, rows):
            self.assertEqual(row_order(a) < row_order(b), is_row_ahead(a, b), (a, b))
            self.assertEqual(row_order(a) == row_order(b), repr(a) == repr(b), (a, b))
            self.assertEqual(same_rows(a, b), repr(a) == repr(b), (a, b))

    def test_it_is_a_tuple(self):
        for row in ((), (None,), (1, "a", True)):
            self.assertIs(type(row_order(row)), tuple)
            hash(row_order(row))


class SameRows(ExactCase):
    def test_the_same(self):
        for row in ((), (None,), (True,), (1,), ("a", 1), (None, False, True, 0, 1, "", "a", "b")):
            self.assertIs(same_rows(row, tuple(list(row))), True)

    def test_not_the_same(self):
        for a, b in (((True,), (1,)), ((False,), (0,)), ((0, True), (0, 1)), ((1,), ("1",)), ((None,), (False,)),
                     ((None,), ("",)), ((), (None,)), ((1,), (1, None)), ((1, 2), (2, 1)), (("a",), ("a ",)),
                     (("a", "b"), ("ab",)), ((0,), (None,)), ((10 ** 9,), (10 ** 9 - 1,))):
            self.assertIs(same_rows(a, b), False, (a, b))
            self.assertIs(same_rows(b, a), False, (a, b))


if __name__ == "__main__":
    unittest.main()
