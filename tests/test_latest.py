"""Points 2, 3, 13 and 14: the latest times, and times that have a free one."""

import unittest

from tests.drawn import all_times, asked, drawn_cases, is_shut, refused
from wakeorder.errors import NoPlace, NoTime, NotFree
from wakeorder.latest import free_of, latest_of, times_with
from wakeorder.plans import plain_plan
from wakeorder.rules import Pair, Rules
from wakeorder.times import keeps_plan, times_of

GREATEST = 10 ** 9
HUGE = 10 ** 5000
FAR = Rules([[1, 1, 9], [1, 1, 1], [1, 1, 1]])
FAR_FLIGHTS = [(0, 0, 50, 0, 1), (1, 0, 50, 0, 1), (2, 0, 50, 0, 1)]
FAR_PLAN = plain_plan([0, 1, 2])
LATE_FLIGHTS = FAR_FLIGHTS[:2] + [(2, 0, 8, 0, 1)]
SIDES = Pair([[5]], [[2]])


class LatestOf(unittest.TestCase):
    def assert_latest(self, rules, flights, closed, plan, times):
        with self.subTest(plan=plan, closed=closed):
            self.assertEqual(asked(self, latest_of, rules, flights, closed, plan), times)

    def test_no_flights(self):
        self.assert_latest(FAR, [], [], [], [])

    def test_last_times(self):
        flights = [(0, 7, 50, 0, 1), (0, 30, 90, 0, 1)]
        self.assert_latest(Rules([[5]]), flights, [], plain_plan([0, 1]), [50, 90])
        self.assert_latest(Rules([[5]]), flights, [], plain_plan([1, 0]), [45, 50])

    def test_a_gap_to_a_place_further_behind(self):
        self.assert_latest(FAR, FAR_FLIGHTS, [], FAR_PLAN, [41, 49, 50])
        self.assert_latest(FAR, FAR_FLIGHTS, [], plain_plan([0, 2, 1]), [40, 49, 50])

    def test_a_gap_to_the_neighbour(self):
        self.assert_latest(Rules([[5]]), [(0, 0, 50, 0, 1)] * 3, [], plain_plan([2, 0, 1]), [40, 45, 50])

    def test_a_closed_stretch(self):
        self.assert_latest(FAR, FAR_FLIGHTS, [(41, 42)], FAR_PLAN, [40, 49, 50])
        self.assert_latest(FAR, FAR_FLIGHTS, [(49, 60), (40, 41), (30, 40)], FAR_PLAN, [29, 47, 48])
        self.assert_latest(FAR, FAR_FLIGHTS, [(51, 60)], FAR_PLAN, [41, 49, 50])
        self.assert_latest(FAR, FAR_FLIGHTS, [(47, 50)], FAR_PLAN, [41, 46, 50])

    def test_two_strips(self):
        flights = [(0, 0, 50, 0, 1)] * 3
        self.assert_latest(SIDES, flights, [], [(0, 0), (1, 1), (2, 0)], [45, 48, 50])
        self.assert_latest(SIDES, flights, [], [(0, 0), (1, 0), (2, 1)], [43, 48, 50])

    def test_time_0(self):
        self.assert_latest(Rules([[5]]), [(0, 0, 9, 0, 1), (0, 0, 9, 0, 1)], [(1, 5)], plain_plan([0, 1]), [0, 9])

    def test_refused_as_times_of(self):
        error = refused(self, NoTime, latest_of, FAR, LATE_FLIGHTS, [], FAR_PLAN)
        self.assertEqual((error.flight, error.time), (2, 9))
        flights = [(0, 0, 4, 0, 1), (0, 0, 90, 0, 1), (0, 0, 7, 0, 1)]
        error = refused(self, NoTime, latest_of, Rules([[5]]), flights, [], plain_plan([1, 0, 2]))
        self.assertEqual((error.flight, error.time), (0, 5))

    def test_at_the_bounds(self):
        flights = [(0, 0, GREATEST, 0, 1)] * 40
        plan = plain_plan(list(range(39, -1, -1)))
        closed = [(GREATEST - 2 * number - 1, GREATEST - 2 * number) for number in range(1, 21)]
        self.assert_latest(Rules([[0]]), flights, closed, plan, [GREATEST] * 40)
        self.assert_latest(Rules([[1]]), flights, closed, plan,
                           [GREATEST - 42 - number for number in range(17, -1, -1)]
                           + [GREATEST - 2 * number for number in range(20, 0, -1)] + [GREATEST - 1, GREATEST])
        self.assert_latest(Rules([[10 ** 6]]), flights, [], plan,
                           [GREATEST - 10 ** 6 * number for number in range(39, -1, -1)])


class FreeOf(unittest.TestCase):
    def test_no_flights(self):
        self.assertEqual(asked(self, free_of, FAR, [], [], []), [])

    def test_from_the_earliest_to_the_latest(self):
        self.assertEqual(asked(self, free_of, FAR, FAR_FLIGHTS, [], FAR_PLAN), [(0, 41), (1, 49), (9, 50)])
        self.assertEqual(asked(self, free_of, FAR, FAR_FLIGHTS, [(1, 4), (41, 42)], FAR_PLAN),
                         [(0, 40), (4, 49), (9, 50)])

    def test_refused_as_times_of(self):
        error = refused(self, NoTime, free_of, FAR, LATE_FLIGHTS, [], FAR_PLAN)
        self.assertEqual((error.flight, error.time), (2, 9))


class TimesWith(unittest.TestCase):
    def tell(self, place, time, closed=()):
        return asked(self, times_with, FAR, FAR_FLIGHTS, list(closed), FAR_PLAN, place, time)

    def test_the_earliest_time(self):
        for place, time in ((0, 0), (1, 1), (2, 9)):
            self.assertEqual(self.tell(place, time), [0, 1, 9])

    def test_those_behind_move_and_those_ahead_stay(self):
        self.assertEqual(self.tell(0, 3), [3, 4, 12])
        self.assertEqual(self.tell(1, 3), [0, 3, 9])
        self.assertEqual(self.tell(1, 20), [0, 20, 21])
        self.assertEqual(self.tell(2, 30), [0, 1, 30])

    def test_the_latest_time(self):
        self.assertEqual(self.tell(0, 41), [41, 42, 50])
        self.assertEqual(self.tell(1, 49), [0, 49, 50])
        self.assertEqual(self.tell(2, 50), [0, 1, 50])

    def test_closed_stretches(self):
        self.assertEqual(self.tell(0, 2, [(3, 6), (10, 13)]), [2, 6, 13])
        self.assertEqual(self.tell(1, 6, [(3, 6), (10, 13)]), [0, 6, 9])

    def test_the_flight_and_not_the_place_gets_the_time(self):
        flights = [(0, 0, 50, 0, 1)] * 3
        told = asked(self, times_with, Rules([[5]]), flights, [], plain_plan([2, 0, 1]), 1, 7)
        self.assertEqual(told, [0, 7, 12])

    def test_no_place(self):
        for place in (-1, -2, -3, -4, 3, 4, HUGE, -HUGE):
            refused(self, NoPlace, times_with, FAR, FAR_FLIGHTS, [], FAR_PLAN, place, 5)
        for place in (-1, 0, 1):
            refused(self, NoPlace, times_with, FAR, [], [], [], place, 0)

    def test_no_time(self):
        for time in (0, 5, -1, HUGE):
            error = refused(self, NoTime, times_with, FAR, LATE_FLIGHTS, [], FAR_PLAN, 1, time)
            self.assertEqual((error.flight, error.time), (2, 9))

    def test_not_free(self):
        for place, time in ((0, -1), (0, 42), (1, 0), (1, 50), (2, 8), (2, 51), (0, HUGE), (0, -HUGE)):
            refused(self, NotFree, times_with, FAR, FAR_FLIGHTS, [], FAR_PLAN, place, time)

    def test_a_closed_time_between(self):
        closed = [(20, 22)]
        for place in range(3):
            self.assertEqual(self.tell(place, 19, closed)[place], 19)
            self.assertEqual(self.tell(place, 22, closed)[place], 22)
            for time in (20, 21):
                refused(self, NotFree, times_with, FAR, FAR_FLIGHTS, closed, FAR_PLAN, place, time)

    def test_no_place_goes_first_then_no_time(self):
        refused(self, NoPlace, times_with, FAR, LATE_FLIGHTS, [], FAR_PLAN, 3, 5)
        refused(self, NoPlace, times_with, FAR, LATE_FLIGHTS, [], FAR_PLAN, -1, -1)
        refused(self, NoPlace, times_with, FAR, FAR_FLIGHTS, [], FAR_PLAN, 3, -1)
        refused(self, NoTime, times_with, FAR, LATE_FLIGHTS, [(3, 4)], FAR_PLAN, 2, 3)

    def test_at_the_bounds(self):
        flights = [(0, 0, GREATEST, 0, 1)] * 40
        closed = [(100 * number, 100 * number + 50) for number in range(20)]
        told = asked(self, times_with, Rules([[10 ** 6]]), flights, closed, plain_plan(list(range(40))), 20,
                     GREATEST - 19 * 10 ** 6)
        self.assertEqual(told, [50 + 10 ** 6 * place for place in range(20)]
                         + [GREATEST - 10 ** 6 * place for place in range(19, -1, -1)])


class Drawn(unittest.TestCase):
    CASES = drawn_cases(4, 600)

    def test_latest_times_keep_the_plan_and_none_are_later(self):
        told = 0
        for case in self.CASES:
            with self.subTest(case=case.seen()):
                kept = all_times(case)
                if not kept:
                    expected = refused(self, NoTime, times_of, *case.all())
                    for function in (latest_of, free_of):
                        error = refused(self, NoTime, function, *case.all())
                        self.assertEqual((error.flight, error.time), (expected.flight, expected.time))
                    continue
                told += 1
                latest = asked(self, latest_of, *case.all())
                earliest = times_of(*case.all())
                self.assertIn(latest, kept)
                self.assertIs(keeps_plan(*case.all(), latest), True)
                for others in kept:
                    self.assertTrue(all(other <= time for time, other in zip(latest, others)))
                self.assertEqual(asked(self, free_of, *case.all()), list(zip(earliest, latest)))
        self.assertGreater(told, 120)

    def test_times_with_each_time(self):
        free = shut = 0
        for case in self.CASES:
            kept = all_times(case)
            for place in range(len(case.plan) if kept else 0):
                for time in range(-1, 11):
                    with self.subTest(case=case.seen(), place=place, time=time):
                        such = [times for times in kept if times[place] == time]
                        if such:
                            free += 1
                            told = asked(self, times_with, *case.all(), place, time)
                            self.assertIn(told, such)
                            self.assertEqual(told, [min(column) for column in zip(*such)])
                        else:
                            shut += time >= 0 and is_shut(case.closed, time)
                            refused(self, NotFree, times_with, *case.all(), place, time)
        self.assertGreater(free, 500)
        self.assertGreater(shut, 100)


if __name__ == "__main__":
    unittest.main()
