"""The refusals: how the classes stand to one another, and their fields."""

import unittest

from wakeorder.errors import (
    NoPlace, NoPlan, NoRow, NoRules, NoSheet, NoTime, NotFree, StripError, TooMany,
)

PLAIN = [NoRules, NoPlace, NotFree, TooMany, NoRow]
REFUSALS = PLAIN + [NoTime, NoPlan, NoSheet]


class Classes(unittest.TestCase):
    def test_strip_error_stands_under_value_error(self):
        self.assertTrue(issubclass(StripError, ValueError))

    def test_each_stands_under_strip_error_and_value_error(self):
        for refusal in REFUSALS:
            with self.subTest(refusal=refusal.__name__):
                self.assertTrue(issubclass(refusal, StripError))
                self.assertTrue(issubclass(refusal, ValueError))
                self.assertIsNot(refusal, StripError)

    def test_none_stands_under_another_one(self):
        for refusal in REFUSALS:
            for other in REFUSALS:
                if refusal is not other:
                    with self.subTest(refusal=refusal.__name__, other=other.__name__):
                        self.assertFalse(issubclass(refusal, other))

    def test_names(self):
        names = [refusal.__name__ for refusal in [StripError] + REFUSALS]
        self.assertEqual(names, [
            "StripError", "NoRules", "NoPlace", "NotFree", "TooMany", "NoRow", "NoTime", "NoPlan", "NoSheet",
        ])

    def test_each_plain_one_is_raised_with_words_of_its_own(self):
        for refusal in PLAIN:
            with self.subTest(refusal=refusal.__name__):
                with self.assertRaises(refusal):
                    raise refusal("words")


class Fields(unittest.TestCase):
    def test_no_time(self):
        with self.assertRaises(NoTime) as taken:
            raise NoTime(3, 1200)
        self.assertEqual(taken.exception.flight, 3)
        self.assertEqual(taken.exception.time, 1200)

    def test_no_time_of_a_very_great_time(self):
        self.assertEqual(NoTime(0, 10 ** 5000).time, 10 ** 5000)

    def test_no_plan(self):
        with self.assertRaises(NoPlan) as taken:
            raise NoPlan([0, 2, 5])
        self.assertEqual(taken.exception.crowd, [0, 2, 5])

    def test_no_plan_without_a_crowd(self):
        self.assertEqual(NoPlan([]).crowd, [])

    def test_no_plan_keeps_a_copy(self):
        crowd = [0, 2]
        error = NoPlan(crowd)
        crowd.append(7)
        self.assertEqual(error.crowd, [0, 2])
        error.crowd.append(9)
        self.assertEqual(crowd, [0, 2, 7])

    def test_no_sheet(self):
        with self.assertRaises(NoSheet) as taken:
            raise NoSheet(4)
        self.assertEqual(taken.exception.row, 4)
        self.assertEqual(NoSheet(0).row, 0)


if __name__ == "__main__":
    unittest.main()
