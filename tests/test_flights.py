"""Points 2 and 6: what flights are."""

import copy
import unittest

from wakeorder.flights import is_flights
from wakeorder.rules import Pair, Rules

GREATEST = 10 ** 9
PLAIN = (0, 10, 20, 15, 3)


def rules_of(kinds):
    rows = [[1] * kinds for one in range(kinds)]
    return [Rules(rows), Pair(rows, rows)]


class Flights(unittest.TestCase):
    def tell(self, flights, kinds=2):
        """The one answer that rules for one strip and for two both give, alone and among others."""
        answers = []
        for rules in rules_of(kinds):
            answers.append(is_flights(rules, flights))
        self.assertEqual(answers[0], answers[1])
        self.assertIn(answers[0], (True, False))
        self.assertIsInstance(answers[0], bool)
        return answers[0]

    def assert_flight(self, flight, answer, kinds=2):
        with self.subTest(kinds=kinds, flight=[number.bit_length() for number in flight]):
            self.assertIs(self.tell([flight], kinds), answer)
            self.assertIs(self.tell([flight, PLAIN], kinds), answer)
            self.assertIs(self.tell([PLAIN, flight], kinds), answer)
            self.assertIs(self.tell([PLAIN, flight, PLAIN], kinds), answer)

    def test_how_many(self):
        self.assertIs(self.tell([]), True)
        self.assertIs(self.tell([PLAIN]), True)
        self.assertIs(self.tell([PLAIN] * 2), True)
        self.assertIs(self.tell([PLAIN] * 39), True)
        self.assertIs(self.tell([PLAIN] * 40), True)
        self.assertIs(self.tell([PLAIN] * 41), False)
        self.assertIs(self.tell([PLAIN] * 100), False)

    def test_the_last_of_forty_counts(self):
        self.assertIs(self.tell([PLAIN] * 39 + [(2, 10, 20, 15, 3)]), False)

    def test_kinds(self):
        for kinds in range(1, 7):
            for kind in range(kinds):
                self.assert_flight((kind, 10, 20, 15, 3), True, kinds)
            for kind in (-1, -kinds, kinds, kinds + 1, 10 ** 5000, -10 ** 5000):
                self.assert_flight((kind, 10, 20, 15, 3), False, kinds)

    def test_windows(self):
        self.assert_flight((1, 20, 20, 15, 3), True)
        self.assert_flight((1, 20, 21, 15, 3), True)
        self.assert_flight((1, 20, 19, 15, 3), False)
        self.assert_flight((1, GREATEST, 0, 15, 3), False)
        self.assert_flight((1, 0, 0, 0, 0), True)
        self.assert_flight((1, GREATEST, GREATEST, GREATEST, GREATEST), True)
        self.assert_flight((1, 0, GREATEST, 15, 3), True)

    def test_due_may_be_outside_the_window(self):
        self.assert_flight((1, 10, 20, 5, 3), True)
        self.assert_flight((1, 10, 20, 10, 3), True)
        self.assert_flight((1, 10, 20, 20, 3), True)
        self.assert_flight((1, 10, 20, 25, 3), True)

    def test_bounds_of_each_number(self):
        for number, answer in (
            (0, True), (1, True), (GREATEST - 1, True), (GREATEST, True),
            (-1, False), (-GREATEST, False), (GREATEST + 1, False), (10 ** 5000, False), (-10 ** 5000, False),
        ):
            # The other end of the window is set so that the range alone decides.
            self.assert_flight((0, number, max(number, GREATEST), 15, 3), answer)
            self.assert_flight((0, min(number, 0), number, 15, 3), answer)
            self.assert_flight((0, 10, 20, number, 3), answer)
            self.assert_flight((0, 10, 20, 15, number), answer)

    def test_nothing_is_changed(self):
        for flights in ([], [PLAIN], [(5, 10, 20, 15, 3), PLAIN], [PLAIN] * 41, [(0, 20, 10, -1, -1)]):
            kept = copy.deepcopy(flights)
            for rules in rules_of(2):
                answer = is_flights(rules, flights)
                self.assertEqual(flights, kept)
                self.assertIs(is_flights(rules, flights), answer)
                self.assertEqual(rules.gap_rows(), [[1, 1], [1, 1]])

    def test_the_rules_that_are_asked_count(self):
        flight = (2, 10, 20, 15, 3)
        self.assertIs(self.tell([flight], kinds=2), False)
        self.assertIs(self.tell([flight], kinds=3), True)


if __name__ == "__main__":
    unittest.main()
