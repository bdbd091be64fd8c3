"""Points 2 and 8: plans."""

import itertools
import unittest

from tests.drawn import asked
from wakeorder.plans import is_plan, plain_plan
from wakeorder.rules import Pair, Rules

HUGE = 10 ** 5000
ONE = Rules([[1, 2], [3, 4]])
TWO = Pair([[1, 2], [3, 4]], [[0, 0], [0, 0]])
FLIGHT = (0, 0, 9, 5, 1)


class IsPlan(unittest.TestCase):
    def tell(self, rules, many, plan):
        answer = asked(self, is_plan, rules, [FLIGHT] * many, plan)
        self.assertIsInstance(answer, bool)
        return answer

    def test_no_flights(self):
        for rules in (ONE, TWO):
            self.assertIs(self.tell(rules, 0, []), True)
            self.assertIs(self.tell(rules, 0, [(0, 0)]), False)
            self.assertIs(self.tell(rules, 1, []), False)

    def test_each_order_is_one(self):
        for order in itertools.permutations(range(4)):
            plan = [(flight, 0) for flight in order]
            self.assertIs(self.tell(ONE, 4, plan), True)
            self.assertIs(self.tell(TWO, 4, plan), True)

    def test_strips(self):
        for strips in itertools.product((0, 1), repeat=3):
            plan = list(zip((2, 0, 1), strips))
            with self.subTest(plan=plan):
                self.assertIs(self.tell(TWO, 3, plan), True)
                self.assertIs(self.tell(ONE, 3, plan), strips == (0, 0, 0))

    def test_a_strip_that_is_not_there(self):
        for rules in (ONE, TWO):
            for strip in (-1, -2, rules.many_strips(), rules.many_strips() + 1, HUGE, -HUGE):
                for place in range(3):
                    plan = [(0, 0), (1, 0), (2, 0)]
                    plan[place] = (place, strip)
                    with self.subTest(strips=rules.many_strips(), bits=strip.bit_length(), place=place):
                        self.assertIs(self.tell(rules, 3, plan), False)

    def test_a_flight_that_is_not_there(self):
        for rules in (ONE, TWO):
            for flight in (-1, -3, 3, 4, HUGE, -HUGE):
                for place in range(3):
                    plan = [(0, 0), (1, 0), (2, 0)]
                    plan[place] = (flight, 0)
                    with self.subTest(strips=rules.many_strips(), bits=flight.bit_length(), place=place):
                        self.assertIs(self.tell(rules, 3, plan), False)
                        self.assertIs(self.tell(rules, 3, [(0, 0), (1, 0), (2, 0), (flight, 0)]), False)

    def test_a_flight_twice_or_left_out(self):
        for rules in (ONE, TWO):
            for plan in (
                [(0, 0), (1, 0), (1, 0)], [(0, 0), (0, 0), (2, 0)], [(0, 0), (1, 0), (2, 0), (2, 0)],
                [(0, 0), (1, 0)], [(1, 0), (2, 0)], [(0, 0), (2, 0)], [],
            ):
                with self.subTest(strips=rules.many_strips(), plan=plan):
                    self.assertIs(self.tell(rules, 3, plan), False)
        self.assertIs(self.tell(TWO, 2, [(0, 0), (0, 1)]), False)
        self.assertIs(self.tell(TWO, 1, [(0, 0), (0, 1)]), False)

    def test_forty_flights(self):
        plan = [(flight, 0) for flight in range(40)]
        self.assertIs(self.tell(ONE, 40, plan[::-1]), True)
        self.assertIs(self.tell(ONE, 40, plan[:-1]), False)
        self.assertIs(self.tell(ONE, 39, plan), False)


class PlainPlan(unittest.TestCase):
    def test_all_on_strip_0(self):
        self.assertEqual(asked(self, plain_plan, []), [])
        self.assertEqual(asked(self, plain_plan, [0]), [(0, 0)])
        self.assertEqual(asked(self, plain_plan, [2, 0, 1]), [(2, 0), (0, 0), (1, 0)])
        self.assertEqual(asked(self, plain_plan, list(range(40))), [(flight, 0) for flight in range(40)])

    def test_is_a_plan(self):
        for order in itertools.permutations(range(4)):
            self.assertIs(is_plan(ONE, [FLIGHT] * 4, plain_plan(list(order))), True)


if __name__ == "__main__":
    unittest.main()
