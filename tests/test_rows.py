"""Points 5, 7 and 8: values, their types, rows, fields and columns."""

import unittest

from tests.support import VALUES, ExactCase
from tideweir.values.rows import column_index, fits, is_value, type_of_value

FIELDS = (("id", "whole"), ("name", "text"), ("open_2", "flag"))


class Values(ExactCase):
    def test_values(self):
        for value in VALUES:
            self.assertIs(is_value(value), True, value)

    def test_integers_at_the_bounds(self):
        self.assertIs(is_value(10 ** 9), True)
        self.assertIs(is_value(-10 ** 9), True)
        self.assertIs(is_value(10 ** 9 + 1), False)
        self.assertIs(is_value(-10 ** 9 - 1), False)
        self.assertIs(is_value(10 ** 40), False)

    def test_texts_at_the_bounds(self):
        self.assertIs(is_value(""), True)
        self.assertIs(is_value("x" * 40), True)
        self.assertIs(is_value("x" * 41), False)
        self.assertIs(is_value(" " * 40), True)

    def test_the_signs_of_texts(self):
        for code in range(300):
            wanted = 32 <= code <= 126 and code != 37
            self.assertIs(is_value(chr(code)), wanted, code)
            self.assertIs(is_value("ab" + chr(code)), wanted, code)
            self.assertIs(is_value(chr(code) + "ab"), wanted, code)
        for sign in ("\u20ac", "\u2028", "\U0001f600"):
            self.assertIs(is_value(sign), False)

    def test_objects_of_other_kinds(self):
        for x in (1.0, 0.0, 1j, b"", b"a", (), (1,), [], [1], {}, {1: 2}, {1}, object(), int, len, range(3)):
            self.assertIs(is_value(x), False, x)

    def test_types(self):
        self.assertIs(type_of_value(None), None)
        for value in (True, False):
            self.same(type_of_value(value), "flag")
        for value in (0, 1, -1, 10 ** 9, -10 ** 9):
            self.same(type_of_value(value), "whole")
        for value in ("", "a", "1", "None", "x" * 40):
            self.same(type_of_value(value), "text")


class Fits(ExactCase):
    def test_each_type_at_each_place(self):
        right = {"flag": (True, False, None), "whole": (1, 0, -3, None), "text": ("", "a", "1", None)}
        every = (True, False, 1, 0, -3, "", "a", "1", None)
        row = (1, "a", True)
        for place, (_, wanted) in enumerate(FIELDS):
            for value in every:
                changed = row[:place] + (value,) + row[place + 1:]
                is_right = any(value is other for other in right[wanted])
                self.assertIs(fits(changed, FIELDS), is_right, changed)

    def test_true_is_no_whole_and_1_is_no_flag(self):
        self.assertIs(fits((True,), (("a", "whole"),)), False)
        self.assertIs(fits((False,), (("a", "whole"),)), False)
        self.assertIs(fits((1,), (("a", "flag"),)), False)
        self.assertIs(fits((0,), (("a", "flag"),)), False)
        self.assertIs(fits((1,), (("a", "text"),)), False)
        self.assertIs(fits(("1",), (("a", "whole"),)), False)

    def test_none_fits_everywhere(self):
        self.assertIs(fits((None, None, None), FIELDS), True)
        for kind in ("flag", "whole", "text"):
            self.assertIs(fits((None,), (("a", kind),)), True)

    def test_too_few_and_too_many_values(self):
        self.assertIs(fits((1, "a"), FIELDS), False)
        self.assertIs(fits((), FIELDS), False)
        self.assertIs(fits((1, "a", True, None), FIELDS), False)
        self.assertIs(fits((1, "a", True, True), FIELDS), False)
        self.assertIs(fits((None, None), FIELDS), False)
        self.assertIs(fits((1, "a", True), FIELDS), True)

    def test_eight_columns(self):
        fields = tuple(("c" + str(k), ("whole", "text")[k // 4]) for k in range(8))
        self.assertIs(fits((1, 2, 3, 4, "a", "b", "c", "d"), fields), True)
        self.assertIs(fits((1, 2, 3, 4, "a", "b", "c", 5), fields), False)
        self.assertIs(fits((1, 2, 3, 4, "a", "b", "c"), fields), False)


class Columns(ExactCase):
    def test_each_column(self):
        self.same(column_index(FIELDS, "id"), 0)
        self.same(column_index(FIELDS, "name"), 1)
        self.same(column_index(FIELDS, "open_2"), 2)

    def test_a_name_that_is_not_there(self):
        for name in ("i", "idd", "open", "nam", "whole", "z"):
            self.assertIs(column_index(FIELDS, name), None)

    def test_arguments_are_left_alone(self):
        self.leaves_alone(column_index, FIELDS, "name")
        self.leaves_alone(fits, (1, "a", None), FIELDS)


if __name__ == "__main__":
    unittest.main()
