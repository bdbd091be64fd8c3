"""Points 2, 3 and 23: the best plan within a shift."""

import itertools
import random
import unittest

from tests.drawn import (
    MOST_PLANS, TOO_MANY_PLANS, asked, drawn_inputs, drawn_rows, great_input, labels_by_trying, plans_by_trying,
    refused, shown_rules,
)
from wakeorder.best import best_plan
from wakeorder.costs import cost_of
from wakeorder.crowds import crowd_of
from wakeorder.errors import NoPlan, NoTime, TooMany
from wakeorder.papers import paper_of
from wakeorder.plans import is_plan
from wakeorder.rules import Pair, Rules
from wakeorder.shifts import is_within, orders_within
from wakeorder.times import times_of

FIVE = Rules([[5]])


def least_cost(rules, flights, closed, shift):
    """What the best plan costs, or None where there is none."""
    try:
        return best_plan(rules, flights, closed, shift)[0]
    except NoPlan:
        return None


class BestPlan(unittest.TestCase):
    def tell(self, rules, flights, closed, shift):
        return asked(self, best_plan, rules, flights, closed, shift)

    def check(self, rules, flights, closed, shift, told):
        cost, plan, times = told
        self.assertIsInstance(told, tuple)
        self.assertIs(is_plan(rules, flights, plan), True)
        self.assertIs(is_within([flight for flight, strip in plan], shift), True)
        self.assertEqual(times, times_of(rules, flights, closed, plan))
        self.assertEqual(cost, cost_of(flights, plan, times))

    def test_no_flights(self):
        for rules in (FIVE, Pair([[5]], [[2]])):
            for shift in range(4):
                self.assertEqual(self.tell(rules, [], [(0, 9)], shift), (0, [], []))

    def test_one_strip(self):
        flights = [(0, 0, 50, 0, 1), (0, 0, 50, 0, 9), (0, 0, 50, 0, 90)]
        self.assertEqual(self.tell(FIVE, flights, [], 0), (945, [(0, 0), (1, 0), (2, 0)], [0, 5, 10]))
        self.assertEqual(self.tell(FIVE, flights, [], 1), (540, [(0, 0), (2, 0), (1, 0)], [0, 5, 10]))
        for shift in (2, 3):
            self.assertEqual(self.tell(FIVE, flights, [], shift), (55, [(2, 0), (1, 0), (0, 0)], [0, 5, 10]))

    def test_closed_stretches(self):
        flights = [(0, 0, 50, 0, 1), (0, 0, 50, 0, 9)]
        self.assertEqual(self.tell(FIVE, flights, [(7, 9), (0, 2), (9, 12)], 1), (30, [(1, 0), (0, 0)], [2, 12]))

    def test_two_strips(self):
        cost, plan, times = self.tell(Pair([[5]], [[2]]), [(0, 0, 50, 0, 1), (0, 0, 50, 0, 9)], [], 0)
        self.assertEqual((cost, times), (18, [0, 2]))
        self.assertNotEqual(plan[0][1], plan[1][1])

    def test_a_cheaper_plan_without_times_does_not_count(self):
        flights = [(0, 0, 4, 0, 1), (0, 0, 50, 0, 9)]
        self.assertEqual(self.tell(FIVE, flights, [], 1), (45, [(0, 0), (1, 0)], [0, 5]))

    def test_no_plan_with_a_crowd(self):
        flights = [(0, 0, 90, 0, 1), (0, 20, 23, 0, 1), (0, 20, 24, 0, 1)]
        for shift in range(4):
            error = refused(self, NoPlan, best_plan, FIVE, flights, [], shift)
            self.assertEqual(error.crowd, [1, 2])
            self.assertEqual(error.crowd, crowd_of(FIVE, flights))

    def test_no_plan_without_a_crowd(self):
        error = refused(self, NoPlan, best_plan, FIVE, [(0, 3, 8, 0, 1)], [(2, 9)], 0)
        self.assertEqual(error.crowd, [])
        self.assertIsInstance(error.crowd, list)

    def test_no_plan_within_the_shift_alone(self):
        flights = [(0, 0, 90, 0, 1), (0, 0, 4, 0, 1)]
        self.assertEqual(refused(self, NoPlan, best_plan, FIVE, flights, [], 0).crowd, [])
        self.assertEqual(self.tell(FIVE, flights, [], 1), (5, [(1, 0), (0, 0)], [0, 5]))

    def test_the_crowd_is_the_askers_own(self):
        flights = [(0, 20, 23, 0, 1)] * 2
        refused(self, NoPlan, best_plan, FIVE, flights, [], 0).crowd.append(9)
        self.assertEqual(refused(self, NoPlan, best_plan, FIVE, flights, [], 0).crowd, [0, 1])

    def test_too_many(self):
        for strips, many, shift, plans in TOO_MANY_PLANS:
            rules = (FIVE, Pair([[5]], [[5]]))[strips - 1]
            for flight in ((0, 0, 900, 0, 1), (0, 0, 0, 0, 1)):
                with self.subTest(strips=strips, many=many, shift=shift, flight=flight):
                    refused(self, TooMany, best_plan, rules, [flight] * many, [], shift)

    def test_held_against_all_plans(self):
        told = refusals = 0
        for rules, flights, closed, shift in drawn_inputs(31, 400, most=5):
            with self.subTest(rows=shown_rules(rules), flights=flights, closed=closed, shift=shift):
                plans = plans_by_trying(rules, len(flights), shift)
                labels = labels_by_trying(rules, flights, closed, plans)[tuple(range(len(flights)))]
                if labels:
                    told += 1
                    answer = self.tell(rules, flights, closed, shift)
                    self.check(rules, flights, closed, shift, answer)
                    self.assertEqual(answer[0], min(label[0] for label in labels))
                    self.assertIn(answer[1], plans)
                    paper = paper_of(rules, flights, closed, shift)
                    self.assertEqual(answer[0], min(label[0] for label in paper[tuple(range(len(flights)))]))
                else:
                    refusals += 1
                    error = refused(self, NoPlan, best_plan, rules, flights, closed, shift)
                    self.assertEqual(error.crowd, crowd_of(rules, flights) or [])
        self.assertGreater(told, 150)
        self.assertGreater(refusals, 80)

    def test_at_the_bounds(self):
        for strips, many, shift, plans in MOST_PLANS:
            with self.subTest(strips=strips, many=many, shift=shift):
                rules, flights, closed = great_input(strips, many, shift)
                answer = self.tell(rules, flights, closed, shift)
                self.check(rules, flights, closed, shift, answer)
                chosen = list(itertools.product(range(strips), repeat=many))
                costs = []
                for order in orders_within(many, shift):
                    for some in chosen:
                        costs.append(self.cost_if_any(rules, flights, closed, list(zip(order, some))))
                self.assertEqual(len(costs), plans)
                self.assertEqual(answer[0], min(cost for cost in costs if cost is not None))

    def cost_if_any(self, rules, flights, closed, plan):
        try:
            return cost_of(flights, plan, times_of(rules, flights, closed, plan))
        except NoTime:
            return None

    def test_no_plan_at_the_bounds(self):
        for strips, many, shift, plans in MOST_PLANS:
            with self.subTest(strips=strips, many=many, shift=shift):
                rules, flights, closed = great_input(strips, many, shift)
                flights = flights[:-1] + [flights[-1][:1] + (119, 119, 0, 1)]
                error = refused(self, NoPlan, best_plan, rules, flights, [(100, 120)], shift)
                self.assertEqual(error.crowd, crowd_of(rules, flights) or [])

    def test_the_greatest_numbers(self):
        flights = [(0, 10 ** 9, 10 ** 9, 0, 10 ** 9)] * 40
        self.assertEqual(self.tell(Rules([[0]]), flights, [(0, 10 ** 9)], 0)[0], 40 * 10 ** 18)


class NeverMore(unittest.TestCase):
    """Point 3: what makes it easier never costs more, and never leaves no plan where there was one."""

    def compare(self, hard, easy):
        before = least_cost(*hard)
        after = least_cost(*easy)
        self.counts[before is None, after is None] = self.counts.get((before is None, after is None), 0) + 1
        with self.subTest(hard=(shown_rules(hard[0]),) + hard[1:], easy=(shown_rules(easy[0]),) + easy[1:]):
            if before is not None:
                self.assertIsNotNone(after)
                self.assertLessEqual(after, before)
                self.less += after < before

    def setUp(self):
        self.chance = random.Random(3)
        self.counts = {}
        self.less = 0

    def tearDown(self):
        # Both plans and none of them were compared, and it did matter at times.
        self.assertGreater(self.counts[False, False], 100)
        self.assertGreater(self.counts[True, True], 10)
        self.assertGreater(self.less, 5)

    def inputs(self, seed):
        return drawn_inputs(seed, 400)

    def test_a_second_strip(self):
        for rules, flights, closed, shift in self.inputs(41):
            rows = rules.gap_rows()
            beside = drawn_rows(self.chance, len(rows), 4)
            self.compare((Rules(rows), flights[:3], closed, shift), (Pair(rows, beside), flights[:3], closed, shift))

    def test_a_greater_shift(self):
        for rules, flights, closed, shift in self.inputs(42):
            for less in range(shift):
                self.compare((rules, flights, closed, less), (rules, flights, closed, shift))

    def test_a_lesser_gap(self):
        for rules, flights, closed, shift in self.inputs(43):
            for kind, row in enumerate(rules.gap_rows()):
                for other, gap in enumerate(row):
                    lesser = rules.with_gap(kind, other, self.chance.randint(0, gap))
                    self.compare((rules, flights, closed, shift), (lesser, flights, closed, shift))

    def test_lesser_gaps_beside(self):
        for rules, flights, closed, shift in self.inputs(44):
            rows = rules.gap_rows()
            beside = drawn_rows(self.chance, len(rows), 4)
            lesser = [[self.chance.randint(0, gap) for gap in row] for row in beside]
            self.compare((Pair(rows, beside), flights[:3], closed, shift),
                         (Pair(rows, lesser), flights[:3], closed, shift))

    def test_a_wider_window(self):
        for rules, flights, closed, shift in self.inputs(45):
            if flights:
                number = self.chance.randrange(len(flights))
                kind, first, last, due, price = flights[number]
                wider = (kind, self.chance.randint(0, first), last + self.chance.randint(0, 4), due, price)
                changed = flights[:number] + [wider] + flights[number + 1:]
                self.compare((rules, flights, closed, shift), (rules, changed, closed, shift))

    def test_a_shorter_closing(self):
        for rules, flights, closed, shift in self.inputs(46):
            if closed:
                number = self.chance.randrange(len(closed))
                start, stop = closed[number]
                start, stop = sorted((self.chance.randint(start, stop), self.chance.randint(start, stop)))
                shorter = [(start, stop)] if start < stop else []
                changed = closed[:number] + shorter + closed[number + 1:]
                self.compare((rules, flights, closed, shift), (rules, flights, changed, shift))


if __name__ == "__main__":
    unittest.main()
