"""Points 2, 3, 21 and 22: crowds."""

import itertools
import random
import unittest

from tests.drawn import Case, asked, drawn_flights, drawn_rules, least_time, plans_by_trying
from wakeorder.crowds import crowd_of, is_crowd
from wakeorder.rules import Pair, Rules

GREATEST = 10 ** 9


def window(first, last, kind=0):
    return (kind, first, last, 0, 1)


def is_crowd_by_trying(rules, flights, some):
    """Point 21, word by word."""
    if len(some) < 2:
        return False
    strips = range(rules.many_strips())
    least = min(rules.apart((flights[one][0], strip), (flights[other][0], beside))
                for one, other in itertools.permutations(some, 2) for strip in strips for beside in strips)
    return least * (len(some) - 1) > max(flights[one][2] for one in some) - min(flights[one][1] for one in some)


def crowd_by_trying(rules, flights):
    for first in sorted(flight[1] for flight in flights):
        for last in sorted(flight[2] for flight in flights):
            some = [one for one, flight in enumerate(flights) if flight[1] >= first and flight[2] <= last]
            if is_crowd_by_trying(rules, flights, some):
                return some
    return None


class IsCrowd(unittest.TestCase):
    def tell(self, rules, flights, some):
        answer = asked(self, is_crowd, rules, flights, some)
        self.assertIsInstance(answer, bool)
        return answer

    def test_fewer_than_two_flights(self):
        for rules in (Rules([[9]]), Pair([[9]], [[9]])):
            self.assertIs(self.tell(rules, [], []), False)
            self.assertIs(self.tell(rules, [window(5, 5)] * 2, []), False)
            self.assertIs(self.tell(rules, [window(5, 5)] * 2, [1]), False)

    def test_just_enough_room_and_a_unit_too_little(self):
        rules = Rules([[5]])
        for many in (2, 3, 10, 40):
            room = 5 * (many - 1)
            some = list(range(many))
            self.assertIs(self.tell(rules, [window(7, 7 + room)] * many, some), False)
            self.assertIs(self.tell(rules, [window(7, 7 + room - 1)] * many, some), True)
            self.assertIs(self.tell(rules, [window(8, 7 + room)] * many, some), True)

    def test_the_least_first_and_the_greatest_last_time(self):
        rules = Rules([[5]])
        self.assertIs(self.tell(rules, [window(4, 6), window(0, 2), window(3, 9)], [0, 1, 2]), True)
        self.assertIs(self.tell(rules, [window(4, 6), window(0, 2), window(3, 10)], [0, 1, 2]), False)
        self.assertIs(self.tell(rules, [window(4, 10), window(0, 2), window(3, 6)], [2, 0, 1]), False)

    def test_only_the_flights_that_are_told(self):
        flights = [window(0, 0), window(0, 90), window(0, 0)]
        self.assertIs(self.tell(Rules([[5]]), flights, [0, 2]), True)
        self.assertIs(self.tell(Rules([[5]]), flights, [2, 0]), True)
        self.assertIs(self.tell(Rules([[5]]), flights, [0, 1]), False)
        self.assertIs(self.tell(Rules([[5]]), flights, [0, 1, 2]), False)

    def test_both_directions_count(self):
        flights = [window(0, 4, 0), window(0, 4, 1)]
        for some in ([0, 1], [1, 0]):
            self.assertIs(self.tell(Rules([[0, 5], [5, 0]]), flights, some), True)
            self.assertIs(self.tell(Rules([[0, 4], [5, 0]]), flights, some), False)
            self.assertIs(self.tell(Rules([[0, 5], [4, 0]]), flights, some), False)

    def test_a_kind_by_itself_counts_where_there_are_two_of_it(self):
        rules = Rules([[1, 5], [5, 5]])
        self.assertIs(self.tell(rules, [window(0, 4, 0), window(0, 4, 1)], [0, 1]), True)
        self.assertIs(self.tell(rules, [window(0, 4, 1), window(0, 4, 1)], [0, 1]), True)
        self.assertIs(self.tell(rules, [window(0, 4, 0), window(0, 4, 0)], [0, 1]), False)
        self.assertIs(self.tell(rules, [window(0, 4, 0), window(0, 4, 1), window(0, 4, 0)], [0, 1, 2]), False)
        self.assertIs(self.tell(rules, [window(0, 4, 0), window(0, 4, 1), window(0, 4, 1)], [0, 1, 2]), True)

    def test_any_strips_count(self):
        flights = [window(0, 4), window(0, 4)]
        self.assertIs(self.tell(Pair([[5]], [[5]]), flights, [0, 1]), True)
        self.assertIs(self.tell(Pair([[5]], [[4]]), flights, [0, 1]), False)
        self.assertIs(self.tell(Pair([[4]], [[5]]), flights, [0, 1]), False)
        flights = [window(0, 4, 0), window(0, 4, 1)]
        self.assertIs(self.tell(Pair([[0, 9], [9, 0]], [[0, 9], [9, 0]]), flights, [0, 1]), True)
        self.assertIs(self.tell(Pair([[0, 9], [9, 0]], [[0, 9], [4, 0]]), flights, [0, 1]), False)
        self.assertIs(self.tell(Pair([[0, 9], [9, 0]], [[0, 4], [9, 0]]), flights, [0, 1]), False)

    def test_gaps_of_0_are_never_too_much(self):
        self.assertIs(self.tell(Rules([[0]]), [window(5, 5)] * 3, [0, 1, 2]), False)

    def test_at_the_bounds(self):
        rules = Rules([[10 ** 6]])
        flights = [window(GREATEST - 39 * 10 ** 6, GREATEST)] * 40
        self.assertIs(self.tell(rules, flights, list(range(40))), False)
        flights = [window(GREATEST - 39 * 10 ** 6 + 1, GREATEST)] * 40
        self.assertIs(self.tell(rules, flights, list(range(40))), True)


class CrowdOf(unittest.TestCase):
    def tell(self, rules, flights):
        return asked(self, crowd_of, rules, flights)

    def test_none(self):
        self.assertIsNone(self.tell(Rules([[9]]), []))
        self.assertIsNone(self.tell(Rules([[9]]), [window(5, 5)]))
        self.assertIsNone(self.tell(Rules([[5]]), [window(0, 5), window(3, 5)]))

    def test_rising(self):
        self.assertEqual(self.tell(Rules([[5]]), [window(3, 4), window(20, 90), window(2, 4)]), [0, 2])

    def test_the_least_first_time_goes_first(self):
        # Each of the two sets is a crowd; the one of the later windows has the lesser numbers.
        flights = [window(50, 52), window(50, 52), window(10, 12), window(10, 12)]
        self.assertEqual(self.tell(Rules([[5]]), flights), [2, 3])
        flights = [window(10, 90), window(50, 52), window(50, 52)]
        self.assertEqual(self.tell(Rules([[5]]), flights), [1, 2])

    def test_then_the_least_last_time(self):
        flights = [window(10, 16), window(10, 14), window(10, 14), window(10, 18)]
        self.assertEqual(self.tell(Rules([[5]]), flights), [1, 2])
        flights = [window(10, 16), window(10, 15), window(10, 15), window(10, 16)]
        self.assertEqual(self.tell(Rules([[5]]), flights), [0, 1, 2, 3])

    def test_windows_within_the_two_times_alone(self):
        flights = [window(0, 30), window(12, 14), window(11, 13), window(10, 40)]
        self.assertEqual(self.tell(Rules([[5]]), flights), [1, 2])

    def test_two_strips(self):
        flights = [window(0, 3), window(0, 3), window(0, 3)]
        self.assertEqual(self.tell(Pair([[5]], [[2]]), flights), [0, 1, 2])
        self.assertIsNone(self.tell(Pair([[5]], [[1]]), flights))

    def test_forty_flights(self):
        rules = Rules([[5]])
        self.assertIsNone(self.tell(rules, [window(number, 195 + number) for number in range(40)]))
        flights = [window(number, 195 + number) for number in range(38)] + [window(30, 34), window(31, 33)]
        self.assertEqual(self.tell(rules, flights), [38, 39])
        self.assertEqual(self.tell(rules, [window(0, 194)] * 40), list(range(40)))

    def test_by_trying(self):
        chance = random.Random(22)
        crowds = 0
        for number in range(1000):
            rules = drawn_rules(chance, greatest=6)
            flights = drawn_flights(chance, rules, chance.randint(0, 6), 9)
            with self.subTest(flights=flights, gaps=rules.gap_rows()):
                crowd = crowd_by_trying(rules, flights)
                crowds += crowd is not None
                self.assertEqual(self.tell(rules, flights), crowd)
                some = chance.sample(range(len(flights)), chance.randint(0, len(flights)))
                self.assertIs(is_crowd(rules, flights, some), is_crowd_by_trying(rules, flights, some))
        self.assertTrue(150 < crowds < 800, crowds)

    def test_no_plan_of_a_crowd_has_times(self):
        chance = random.Random(24)
        crowds = 0
        for number in range(200):
            rules = drawn_rules(chance, greatest=6)
            flights = drawn_flights(chance, rules, 3, 9)
            if crowd_of(rules, flights) is None:
                continue
            crowds += 1
            for plan in plans_by_trying(rules, 3, 2):
                times = []
                while len(times) < 3 and None not in times:
                    times.append(least_time(Case(rules, flights, [], plan), times))
                with self.subTest(flights=flights, gaps=rules.gap_rows(), plan=plan):
                    self.assertIn(None, times)
        self.assertGreater(crowds, 40)


if __name__ == "__main__":
    unittest.main()
