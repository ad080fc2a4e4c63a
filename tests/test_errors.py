"""The error classes of the interface."""

import unittest

from tideweir import errors
from tests.support import ExactCase

NAMES = ("InvalidFlow", "InvalidLogs", "InvalidOperator", "InvalidPlan", "InvalidGraph", "InvalidState",
         "InvalidParcel", "InvalidChoice", "NotTheSame", "UnknownSource", "TooFewPartitions", "EngineDown",
         "EngineUp", "UnderWay", "UnknownCheckpoint")


class Errors(ExactCase):
    def test_all_are_classes_of_errors_py(self):
        for name in NAMES + ("TideweirError",):
            self.assertEqual(getattr(errors, name).__module__, "tideweir.errors", name)
            self.assertEqual(getattr(errors, name).__name__, name)

    def test_the_common_one_is_a_value_error(self):
        self.assertTrue(issubclass(errors.TideweirError, ValueError))

    def test_each_stands_under_the_common_one_and_under_no_other(self):
        for name in NAMES:
            error = getattr(errors, name)
            self.assertTrue(issubclass(error, errors.TideweirError), name)
            for other in NAMES:
                self.assertEqual(issubclass(error, getattr(errors, other)), name == other, (name, other))

    def test_each_has_its_message(self):
        for name in NAMES:
            raised = getattr(errors, name)("some words")
            self.same(raised.message, "some words")
            with self.assertRaises(errors.TideweirError) as caught:
                raise raised
            self.same(caught.exception.message, "some words")


if __name__ == "__main__":
    unittest.main()
