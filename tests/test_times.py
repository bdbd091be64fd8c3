"""Points 2, 3, 5, 9, 10, 11 and 12: times that keep a plan, the earliest ones, and what pushes them."""

import unittest

from tests.drawn import Case, all_cost, all_times, asked, drawn_cases, fits, refused
from wakeorder.costs import cost_of
from wakeorder.errors import NoPlace, NoTime
from wakeorder.plans import plain_plan
from wakeorder.rules import Pair, Rules
from wakeorder.times import chain_of, keeps_plan, pushes_of, times_of

GREATEST = 10 ** 9
HUGE = 10 ** 5000
# From 0 to 1 and from 1 to 2 little, from 0 to 2 much: the neighbour is not all that counts.
FAR = Rules([[1, 1, 9], [1, 1, 1], [1, 1, 1]])
FAR_FLIGHTS = [(0, 0, 50, 0, 1), (1, 0, 50, 0, 1), (2, 0, 50, 0, 1)]
FAR_PLAN = plain_plan([0, 1, 2])
# On the same strip 5, from one strip to the other one 2.
SIDES = Pair([[5]], [[2]])
SIDES_FLIGHTS = [(0, 0, 50, 0, 1)] * 3


class KeepsPlan(unittest.TestCase):
    def tell(self, rules, flights, closed, plan, times):
        answer = asked(self, keeps_plan, rules, flights, closed, plan, times)
        self.assertIsInstance(answer, bool)
        return answer

    def assert_times(self, rules, flights, closed, plan, answers):
        for times, answer in answers:
            with self.subTest(times=[min(time, GREATEST) for time in times]):
                self.assertIs(self.tell(rules, flights, closed, plan, times), answer)

    def test_no_flights(self):
        self.assertIs(self.tell(FAR, [], [(0, 9)], [], []), True)

    def test_windows(self):
        rules = Rules([[0]])
        self.assert_times(rules, [(0, 4, 8, 0, 1)], [], [(0, 0)], [
            ([3], False), ([4], True), ([6], True), ([8], True), ([9], False), ([HUGE], False),
            ([-1], False), ([-5], False), ([-HUGE], False),
        ])

    def test_windows_by_the_flight_and_not_by_the_place(self):
        flights = [(0, 4, 8, 0, 1), (0, 0, 3, 0, 1)]
        self.assert_times(Rules([[0]]), flights, [], plain_plan([1, 0]), [
            ([0, 4], True), ([3, 8], True), ([4, 4], False), ([3, 3], False), ([0, 9], False),
        ])

    def test_times_below_0(self):
        self.assert_times(Rules([[0]]), [(0, 0, 8, 0, 1)] * 2, [], plain_plan([0, 1]), [
            ([0, 0], True), ([-1, 0], False), ([-1, -1], False), ([0, -1], False),
        ])

    def test_closed_times(self):
        self.assert_times(Rules([[0]]), [(0, 0, 9, 0, 1)], [(5, 7), (2, 4)], [(0, 0)], [
            ([1], True), ([2], False), ([3], False), ([4], True), ([5], False), ([6], False), ([7], True),
        ])

    def test_a_gap_between_neighbours(self):
        self.assert_times(Rules([[3, 4], [5, 6]]), [(0, 0, 90, 0, 1), (1, 0, 90, 0, 1)], [], plain_plan([0, 1]), [
            ([0, 3], False), ([0, 4], True), ([2, 6], True), ([2, 5], False), ([6, 2], False),
        ])
        self.assert_times(Rules([[3, 4], [5, 6]]), [(0, 0, 90, 0, 1), (1, 0, 90, 0, 1)], [], plain_plan([1, 0]), [
            ([0, 4], False), ([0, 5], True), ([2, 6], False), ([2, 7], True),
        ])

    def test_gaps_of_0(self):
        self.assert_times(Rules([[0]]), [(0, 0, 9, 0, 1)] * 3, [], plain_plan([2, 0, 1]), [
            ([4, 4, 4], True), ([4, 4, 5], True), ([4, 5, 4], False), ([5, 4, 5], False),
        ])

    def test_a_gap_to_a_place_further_ahead(self):
        self.assert_times(FAR, FAR_FLIGHTS, [], FAR_PLAN, [
            ([0, 1, 9], True), ([0, 1, 8], False), ([0, 8, 9], True), ([0, 9, 9], False), ([1, 2, 9], False),
        ])

    def test_two_strips(self):
        self.assert_times(SIDES, SIDES_FLIGHTS, [], [(0, 0), (1, 1), (2, 0)], [
            ([0, 2, 5], True), ([0, 1, 5], False), ([0, 2, 4], False), ([0, 3, 5], True), ([0, 4, 5], False),
        ])
        self.assert_times(SIDES, SIDES_FLIGHTS, [], [(0, 1), (1, 1), (2, 0)], [
            ([0, 5, 7], True), ([0, 4, 7], False), ([0, 5, 6], False),
        ])

    def test_by_trying(self):
        for case in drawn_cases(21, 60, most_flights=2, end=5):
            kept = all_times(case)
            trials = [[]]
            for place in case.plan:
                trials = [times + [time] for times in trials for time in range(-1, 7)]
            for times in trials:
                with self.subTest(case=case.seen(), times=times):
                    self.assertIs(keeps_plan(*case.all(), times), times in kept)


class TimesOf(unittest.TestCase):
    def assert_times(self, rules, flights, closed, plan, times):
        with self.subTest(plan=plan, closed=closed):
            self.assertEqual(asked(self, times_of, rules, flights, closed, plan), times)

    def test_no_flights(self):
        self.assert_times(FAR, [], [], [], [])
        self.assert_times(SIDES, [], [(0, GREATEST)], [], [])

    def test_first_times(self):
        flights = [(0, 7, 50, 0, 1), (0, 30, 50, 0, 1)]
        self.assert_times(Rules([[5]]), flights, [], plain_plan([0, 1]), [7, 30])
        self.assert_times(Rules([[5]]), flights, [], plain_plan([1, 0]), [30, 35])

    def test_the_gap_to_a_place_further_ahead(self):
        self.assert_times(FAR, FAR_FLIGHTS, [], FAR_PLAN, [0, 1, 9])
        self.assert_times(FAR, FAR_FLIGHTS, [], plain_plan([1, 0, 2]), [0, 1, 10])

    def test_two_strips(self):
        self.assert_times(SIDES, SIDES_FLIGHTS, [], [(0, 0), (1, 1), (2, 0)], [0, 2, 5])
        self.assert_times(SIDES, SIDES_FLIGHTS, [], [(0, 0), (1, 0), (2, 1)], [0, 5, 7])
        self.assert_times(SIDES, SIDES_FLIGHTS, [], [(0, 1), (1, 0), (2, 1)], [0, 2, 5])

    def test_a_closed_stretch_moves_a_time_on(self):
        self.assert_times(FAR, FAR_FLIGHTS, [(8, 12), (12, 15), (0, 1)], FAR_PLAN, [1, 2, 15])
        self.assert_times(FAR, FAR_FLIGHTS, [(1, 4)], FAR_PLAN, [0, 4, 9])
        self.assert_times(FAR, FAR_FLIGHTS, [(10, 14)], FAR_PLAN, [0, 1, 9])
        self.assert_times(FAR, FAR_FLIGHTS, [(6, 9)], FAR_PLAN, [0, 1, 9])

    def test_just_at_the_last_time(self):
        flights = FAR_FLIGHTS[:2] + [(2, 0, 9, 0, 1)]
        self.assert_times(FAR, flights, [], FAR_PLAN, [0, 1, 9])
        self.assert_times(Rules([[5]]), [(0, 4, 4, 0, 1)], [(2, 4)], [(0, 0)], [4])

    def test_no_time_by_a_gap(self):
        flights = FAR_FLIGHTS[:2] + [(2, 0, 8, 0, 1)]
        error = refused(self, NoTime, times_of, FAR, flights, [], FAR_PLAN)
        self.assertEqual((error.flight, error.time), (2, 9))

    def test_no_time_by_a_closed_stretch(self):
        error = refused(self, NoTime, times_of, Rules([[5]]), [(0, 4, 8, 0, 1)], [(3, 7), (7, 30)], [(0, 0)])
        self.assertEqual((error.flight, error.time), (0, 30))

    def test_no_time_has_the_flight_and_not_the_place(self):
        flights = [(0, 0, 4, 0, 1), (0, 0, 90, 0, 1), (0, 0, 7, 0, 1)]
        error = refused(self, NoTime, times_of, Rules([[5]]), flights, [], plain_plan([1, 0, 2]))
        self.assertEqual((error.flight, error.time), (0, 5))
        error = refused(self, NoTime, times_of, Rules([[5]]), flights, [], plain_plan([1, 2, 0]))
        self.assertEqual((error.flight, error.time), (0, 10))

    def test_no_time_is_of_the_first_such_place(self):
        flights = [(0, 0, 1, 0, 1), (0, 0, 2, 0, 1), (0, 0, 3, 0, 1)]
        error = refused(self, NoTime, times_of, Rules([[4]]), flights, [], plain_plan([2, 1, 0]))
        self.assertEqual((error.flight, error.time), (1, 4))

    def test_at_the_bounds(self):
        flights = [(0, GREATEST, GREATEST, 0, 1)] * 40
        closed = [(2 * number, 2 * number + 1) for number in range(19)] + [(50, GREATEST)]
        plan = plain_plan(list(range(39, -1, -1)))
        self.assert_times(Rules([[0]]), flights, closed, plan, [GREATEST] * 40)
        error = refused(self, NoTime, times_of, Rules([[10 ** 6]]), flights, closed, plan)
        self.assertEqual((error.flight, error.time), (38, GREATEST + 10 ** 6))
        flights = [(0, 0, GREATEST, 0, 1)] * 40
        self.assert_times(Rules([[10 ** 6]]), flights, [], plan, [10 ** 6 * place for place in range(40)])


    def test_somewhat_beyond_the_bounds(self):
        flights = [(0, GREATEST + 5, GREATEST + 500, 0, GREATEST + 1)] * 43
        closed = [(2 * number, 2 * number + 1) for number in range(22)] + [(GREATEST, GREATEST + 10)]
        plan = plain_plan(list(range(43)))
        self.assert_times(Rules([[2]]), flights, closed, plan, [GREATEST + 10 + 2 * place for place in range(43)])


class PushesOf(unittest.TestCase):
    def assert_pushes(self, rules, flights, closed, plan, pushes):
        with self.subTest(plan=plan, closed=closed):
            self.assertEqual(asked(self, pushes_of, rules, flights, closed, plan), pushes)

    def test_no_flights(self):
        self.assert_pushes(FAR, [], [], [], [])

    def test_each_of_the_three(self):
        self.assert_pushes(FAR, FAR_FLIGHTS, [(1, 4)], FAR_PLAN, [("first",), ("closed", 0), ("gap", 0)])
        self.assert_pushes(FAR, FAR_FLIGHTS, [], FAR_PLAN, [("first",), ("gap", 0), ("gap", 0)])
        self.assert_pushes(FAR, FAR_FLIGHTS, [(0, 1)], FAR_PLAN, [("closed", 0), ("gap", 0), ("gap", 0)])

    def test_the_first_of_several_places(self):
        # The last one is at 2 by each of the three ahead of it.
        flights = [(0, 0, 50, 0, 1), (0, 0, 50, 0, 1), (1, 0, 50, 0, 1), (2, 0, 50, 0, 1)]
        rules = Rules([[0, 1, 2], [9, 9, 1], [9, 9, 9]])
        self.assertEqual(times_of(rules, flights, [], plain_plan([0, 1, 2, 3])), [0, 0, 1, 2])
        self.assert_pushes(rules, flights, [], plain_plan([0, 1, 2, 3]),
                           [("first",), ("first",), ("gap", 0), ("gap", 0)])
        # Here only the neighbour makes it, then only the one ahead of that.
        self.assert_pushes(Rules([[0, 1, 1], [9, 9, 1], [9, 9, 9]]), flights, [], plain_plan([0, 1, 2, 3]),
                           [("first",), ("first",), ("gap", 0), ("gap", 2)])

    def test_the_place_and_not_the_flight(self):
        flights = [(0, 0, 50, 0, 1)] * 3
        self.assert_pushes(Rules([[5]]), flights, [], plain_plan([2, 0, 1]), [("first",), ("gap", 0), ("gap", 1)])

    def test_the_first_time_goes_ahead_of_a_gap(self):
        flights = [(0, 0, 50, 0, 1), (0, 5, 50, 0, 1)]
        self.assert_pushes(Rules([[5]]), flights, [], plain_plan([0, 1]), [("first",), ("first",)])

    def test_the_first_time_goes_ahead_of_a_closed_stretch(self):
        self.assert_pushes(Rules([[5]]), [(0, 5, 50, 0, 1)], [(2, 5)], [(0, 0)], [("first",)])

    def test_a_gap_goes_ahead_of_a_closed_stretch(self):
        flights = [(0, 0, 50, 0, 1), (0, 0, 50, 0, 1)]
        self.assert_pushes(Rules([[5]]), flights, [(2, 5)], plain_plan([0, 1]), [("first",), ("gap", 0)])

    def test_the_first_of_several_stretches_as_handed_in(self):
        flights = [(0, 3, 50, 0, 1)]
        self.assert_pushes(Rules([[5]]), flights, [(9, 12), (4, 7), (2, 7), (3, 5)], [(0, 0)], [("closed", 1)])
        self.assert_pushes(Rules([[5]]), flights, [(9, 12), (2, 5), (3, 4), (5, 7), (6, 7)], [(0, 0)],
                           [("closed", 3)])

    def test_two_strips(self):
        self.assert_pushes(SIDES, SIDES_FLIGHTS, [], [(0, 0), (1, 1), (2, 0)], [("first",), ("gap", 0), ("gap", 0)])
        self.assert_pushes(SIDES, SIDES_FLIGHTS, [], [(0, 0), (1, 0), (2, 1)], [("first",), ("gap", 0), ("gap", 1)])

    def test_refused_as_times_of(self):
        flights = FAR_FLIGHTS[:2] + [(2, 0, 8, 0, 1)]
        error = refused(self, NoTime, pushes_of, FAR, flights, [], FAR_PLAN)
        self.assertEqual((error.flight, error.time), (2, 9))

    def test_forty_flights(self):
        plan = plain_plan(list(range(39, -1, -1)))
        self.assert_pushes(Rules([[3]]), [(0, 0, 500, 0, 1)] * 40, [], plan,
                           [("first",)] + [("gap", place) for place in range(39)])


class ChainOf(unittest.TestCase):
    def chains(self, rules, flights, closed, plan):
        return [asked(self, chain_of, rules, flights, closed, plan, place) for place in range(len(plan))]

    def test_each_place(self):
        self.assertEqual(self.chains(FAR, FAR_FLIGHTS, [], FAR_PLAN), [[0], [0, 1], [0, 2]])
        self.assertEqual(self.chains(FAR, FAR_FLIGHTS, [(1, 4)], FAR_PLAN), [[0], [1], [0, 2]])
        self.assertEqual(self.chains(Rules([[5]]), [(0, 0, 50, 0, 1)] * 3, [], plain_plan([2, 1, 0])),
                         [[0], [0, 1], [0, 1, 2]])

    def test_a_chain_begins_at_a_first_time_or_a_closed_stretch(self):
        flights = [(0, 0, 90, 0, 1), (0, 20, 90, 0, 1), (0, 0, 90, 0, 1), (0, 0, 90, 0, 1), (0, 0, 90, 0, 1)]
        self.assertEqual(self.chains(Rules([[5]]), flights, [(27, 32)], plain_plan([0, 1, 2, 3, 4])),
                         [[0], [1], [1, 2], [3], [3, 4]])

    def test_forty_flights(self):
        chains = self.chains(Rules([[3]]), [(0, 0, 500, 0, 1)] * 40, [], plain_plan(list(range(40))))
        self.assertEqual(chains, [list(range(place + 1)) for place in range(40)])

    def test_no_place(self):
        for place in (-1, -2, -3, -4, 3, 4, HUGE, -HUGE):
            refused(self, NoPlace, chain_of, FAR, FAR_FLIGHTS, [], FAR_PLAN, place)
        for place in (-1, 0, 1):
            refused(self, NoPlace, chain_of, FAR, [], [], [], place)

    def test_no_time(self):
        flights = FAR_FLIGHTS[:2] + [(2, 0, 8, 0, 1)]
        for place in range(3):
            error = refused(self, NoTime, chain_of, FAR, flights, [], FAR_PLAN, place)
            self.assertEqual((error.flight, error.time), (2, 9))

    def test_no_place_goes_ahead_of_no_time(self):
        flights = FAR_FLIGHTS[:2] + [(2, 0, 8, 0, 1)]
        for place in (-1, 3):
            refused(self, NoPlace, chain_of, FAR, flights, [], FAR_PLAN, place)


class Drawn(unittest.TestCase):
    CASES = drawn_cases(3, 500)

    def test_earliest_times_keep_the_plan_and_none_are_earlier_or_cost_less(self):
        told = 0
        for case in self.CASES:
            with self.subTest(case=case.seen()):
                kept = all_times(case)
                if not kept:
                    refused(self, NoTime, times_of, *case.all())
                    continue
                told += 1
                times = asked(self, times_of, *case.all())
                self.assertIn(times, kept)
                self.assertIs(keeps_plan(*case.all(), times), True)
                cost = cost_of(case.flights, case.plan, times)
                self.assertEqual(cost, all_cost(case, times))
                for others in kept:
                    self.assertTrue(all(time <= other for time, other in zip(times, others)))
                    self.assertLessEqual(cost, all_cost(case, others))
        self.assertGreater(told, 150)
        self.assertGreater(len(self.CASES) - told, 100)

    def test_no_time_tells_the_first_such_place(self):
        for case in self.CASES:
            if all_times(case):
                continue
            with self.subTest(case=case.seen()):
                place = 0
                while all_times(Case(case.rules, case.flights, case.closed, case.plan[:place + 1])):
                    place += 1
                error = refused(self, NoTime, times_of, *case.all())
                self.assertEqual(error.flight, case.plan[place][0])
                self.assertEqual(error.time, self.time_without_an_end(case, place))

    def time_without_an_end(self, case, place):
        """The least time of a place behind the earliest ones ahead, were its window not to end."""
        ahead = min(all_times(Case(case.rules, case.flights, case.closed, case.plan[:place])))
        flights = [flight[:2] + (99,) + flight[3:] for flight in case.flights]
        endless = Case(case.rules, flights, case.closed, case.plan)
        return [time for time in range(99) if fits(endless, ahead + [time])][0]

    def test_pushes_and_chains(self):
        for case in self.CASES:
            with self.subTest(case=case.seen()):
                if not all_times(case):
                    refused(self, NoTime, pushes_of, *case.all())
                    continue
                times = times_of(*case.all())
                pushes = asked(self, pushes_of, *case.all())
                self.assertEqual(len(pushes), len(times))
                for place, push in enumerate(pushes):
                    self.check_push(case, times, place, push)
                    self.check_chain(pushes, place, asked(self, chain_of, *case.all(), place))

    def check_push(self, case, times, place, push):
        flight, strip = case.plan[place]
        spots = [(case.flights[other][0], beside) for other, beside in case.plan]
        makes = [times[ahead] + case.rules.apart(spots[ahead], spots[place]) == times[place] for ahead in range(place)]
        stops = [stop == times[place] for start, stop in case.closed]
        if times[place] == case.flights[flight][1]:
            self.assertEqual(push, ("first",))
        elif any(makes):
            self.assertEqual(push, ("gap", makes.index(True)))
        else:
            self.assertEqual(push, ("closed", stops.index(True)))

    def check_chain(self, pushes, place, chain):
        self.assertEqual(chain[-1], place)
        self.assertNotEqual(pushes[chain[0]][0], "gap")
        for ahead, behind in zip(chain, chain[1:]):
            self.assertEqual(pushes[behind], ("gap", ahead))


if __name__ == "__main__":
    unittest.main()
