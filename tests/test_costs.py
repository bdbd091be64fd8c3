"""Points 2 and 12: what being late costs."""

import unittest

from tests.drawn import asked
from wakeorder.costs import cost_of, late_cost

GREATEST = 10 ** 9


class LateCost(unittest.TestCase):
    def test_ahead_at_and_behind_due(self):
        flight = (0, 0, 90, 50, 3)
        for time, cost in ((0, 0), (49, 0), (50, 0), (51, 3), (52, 6), (90, 120), (91, 123)):
            with self.subTest(time=time):
                self.assertEqual(asked(self, late_cost, flight, time), cost)

    def test_price_0(self):
        self.assertEqual(asked(self, late_cost, (0, 0, 90, 50, 0), 80), 0)

    def test_the_window_does_not_count(self):
        self.assertEqual(asked(self, late_cost, (1, 10, 20, 0, 2), 5), 10)
        self.assertEqual(asked(self, late_cost, (1, 10, 20, 100, 2), 15), 0)
        self.assertEqual(asked(self, late_cost, (1, 10, 20, 15, 2), 25), 20)

    def test_very_great_times(self):
        self.assertEqual(asked(self, late_cost, (0, 0, GREATEST, 0, GREATEST), GREATEST), GREATEST ** 2)
        self.assertEqual(asked(self, late_cost, (0, 0, GREATEST, GREATEST, 7), 10 ** 5000),
                         7 * (10 ** 5000 - GREATEST))


class CostOf(unittest.TestCase):
    FLIGHTS = [(0, 0, 90, 50, 3), (1, 0, 90, 10, 7), (0, 0, 90, 20, 100)]

    def test_no_flights(self):
        self.assertEqual(asked(self, cost_of, [], [], []), 0)

    def test_the_sum(self):
        plan = [(2, 0), (0, 0), (1, 0)]
        self.assertEqual(asked(self, cost_of, self.FLIGHTS, plan, [0, 0, 0]), 0)
        self.assertEqual(asked(self, cost_of, self.FLIGHTS, plan, [20, 50, 10]), 0)
        self.assertEqual(asked(self, cost_of, self.FLIGHTS, plan, [21, 51, 11]), 110)
        self.assertEqual(asked(self, cost_of, self.FLIGHTS, plan, [19, 52, 60]), 356)

    def test_by_the_flight_and_not_by_the_place(self):
        self.assertEqual(asked(self, cost_of, self.FLIGHTS, [(1, 1), (2, 0), (0, 1)], [30, 30, 60]), 140 + 1000 + 30)

    def test_forty_flights(self):
        flights = [(0, 0, GREATEST, number, GREATEST) for number in range(40)]
        plan = [(number, 0) for number in range(40)]
        self.assertEqual(asked(self, cost_of, flights, plan, [GREATEST] * 40),
                         sum(GREATEST * (GREATEST - number) for number in range(40)))


if __name__ == "__main__":
    unittest.main()
