"""Points 2 and 7: closed stretches, and which times are open."""

import itertools
import random
import unittest

from tests.drawn import asked, is_shut
from wakeorder.openings import is_closed, is_open, joined_stretches, last_open, next_open

GREATEST = 10 ** 9
HUGE = 10 ** 5000


class Closed(unittest.TestCase):
    def tell(self, closed):
        answer = asked(self, is_closed, closed)
        self.assertIsInstance(answer, bool)
        return answer

    def assert_stretch(self, stretch, answer):
        for closed in ([stretch], [(3, 5), stretch], [stretch, (3, 5)], [(3, 5)] * 19 + [stretch]):
            with self.subTest(many=len(closed), bits=[number.bit_length() for number in stretch]):
                self.assertIs(self.tell(closed), answer)

    def test_how_many(self):
        for many in (0, 1, 2, 19, 20):
            with self.subTest(many=many):
                self.assertIs(self.tell([(3, 5)] * many), True)
        for many in (21, 22, 40):
            with self.subTest(many=many):
                self.assertIs(self.tell([(3, 5)] * many), False)

    def test_right_stretches(self):
        for stretch in ((0, 1), (3, 4), (0, GREATEST), (GREATEST - 1, GREATEST)):
            self.assert_stretch(stretch, True)

    def test_wrong_stretches(self):
        for stretch in (
            (-1, 5), (-1, 0), (-HUGE, 5), (0, 0), (5, 5), (GREATEST, GREATEST), (6, 5), (GREATEST, 0), (0, -1),
            (0, GREATEST + 1), (GREATEST, GREATEST + 1), (GREATEST + 1, GREATEST + 2), (0, HUGE), (HUGE, HUGE + 1),
        ):
            self.assert_stretch(stretch, False)

    def test_any_order_and_overlapping(self):
        self.assertIs(self.tell([(7, 9), (0, 4), (2, 8), (7, 9), (9, 10)]), True)


class Joined(unittest.TestCase):
    def assert_joined(self, closed, answer):
        for some in itertools.permutations(closed):
            with self.subTest(closed=some):
                told = asked(self, joined_stretches, list(some))
                self.assertEqual(told, answer)
                self.assertIsInstance(told, list)

    def test_none_and_one(self):
        self.assert_joined([], [])
        self.assert_joined([(3, 5)], [(3, 5)])

    def test_apart(self):
        self.assert_joined([(0, 2), (3, 4), (6, 9)], [(0, 2), (3, 4), (6, 9)])

    def test_touching(self):
        self.assert_joined([(0, 2), (2, 4)], [(0, 4)])
        self.assert_joined([(0, 2), (2, 4), (4, 7), (8, 9)], [(0, 7), (8, 9)])

    def test_overlapping(self):
        self.assert_joined([(0, 3), (2, 5)], [(0, 5)])
        self.assert_joined([(0, 3), (2, 5), (4, 6), (7, 8)], [(0, 6), (7, 8)])

    def test_one_within_another(self):
        self.assert_joined([(0, 9), (2, 5)], [(0, 9)])
        self.assert_joined([(0, 9), (2, 5), (7, 8), (9, 11)], [(0, 11)])
        self.assert_joined([(0, 9), (0, 4)], [(0, 9)])
        self.assert_joined([(0, 9), (5, 9)], [(0, 9)])

    def test_the_same_one_twice(self):
        self.assert_joined([(3, 5), (3, 5)], [(3, 5)])
        self.assert_joined([(3, 5), (3, 5), (6, 7)], [(3, 5), (6, 7)])

    def test_at_the_bounds(self):
        self.assert_joined([(0, GREATEST), (GREATEST - 1, GREATEST)], [(0, GREATEST)])
        twenty = [(2 * number, 2 * number + 1) for number in range(20)]
        self.assertEqual(asked(self, joined_stretches, twenty[::-1]), twenty)
        touching = [(number, number + 1) for number in range(20)]
        self.assertEqual(asked(self, joined_stretches, touching[::-1]), [(0, 20)])

    def test_handed_in_joined_it_is_still_another_list(self):
        closed = [(0, 2), (3, 4)]
        told = joined_stretches(closed)
        told.append((8, 9))
        self.assertEqual(closed, [(0, 2), (3, 4)])


class Open(unittest.TestCase):
    def tell(self, closed, time):
        answer = asked(self, is_open, closed, time)
        self.assertIsInstance(answer, bool)
        return answer

    def test_no_stretch(self):
        for time in (0, 1, GREATEST, HUGE):
            self.assertIs(self.tell([], time), True)

    def test_at_a_start_and_a_stop(self):
        for closed in ([(3, 6)], [(9, 12), (3, 6)]):
            answers = [self.tell(closed, time) for time in range(9)]
            self.assertEqual(answers, [True, True, True, False, False, False, True, True, True])

    def test_from_0_on(self):
        self.assertIs(self.tell([(0, 1)], 0), False)
        self.assertIs(self.tell([(0, 1)], 1), True)

    def test_the_last_time(self):
        self.assertIs(self.tell([(5, GREATEST)], GREATEST - 1), False)
        self.assertIs(self.tell([(5, GREATEST)], GREATEST), True)
        self.assertIs(self.tell([(5, GREATEST)], HUGE), True)

    def test_touching(self):
        self.assertEqual([self.tell([(4, 6), (2, 4)], time) for time in range(1, 7)],
                         [True, False, False, False, False, True])


class NextAndLast(unittest.TestCase):
    def test_from_an_open_time(self):
        for time in (0, 2, 6, 7, GREATEST, HUGE):
            self.assertEqual(asked(self, next_open, [(3, 6)], time), time)
            self.assertEqual(asked(self, last_open, [(3, 6)], time), time)
            self.assertEqual(asked(self, next_open, [], time), time)
            self.assertEqual(asked(self, last_open, [], time), time)

    def test_from_a_closed_time(self):
        for time in (3, 4, 5):
            self.assertEqual(asked(self, next_open, [(3, 6)], time), 6)
            self.assertEqual(asked(self, last_open, [(3, 6)], time), 2)

    def test_over_touching_stretches(self):
        for closed in itertools.permutations([(3, 5), (5, 6), (6, 9), (11, 12)]):
            for time in range(3, 9):
                self.assertEqual(asked(self, next_open, list(closed), time), 9)
                self.assertEqual(asked(self, last_open, list(closed), time), 2)

    def test_over_overlapping_stretches(self):
        for closed in itertools.permutations([(3, 6), (4, 5), (5, 9), (10, 12)]):
            for time in range(3, 9):
                self.assertEqual(asked(self, next_open, list(closed), time), 9)
                self.assertEqual(asked(self, last_open, list(closed), time), 2)

    def test_where_one_time_is_open_between_two(self):
        closed = [(6, 9), (2, 5)]
        self.assertEqual(asked(self, next_open, closed, 2), 5)
        self.assertEqual(asked(self, next_open, closed, 5), 5)
        self.assertEqual(asked(self, last_open, closed, 8), 5)
        self.assertEqual(asked(self, last_open, closed, 5), 5)

    def test_none_where_all_ahead_is_closed(self):
        for time in range(5):
            self.assertIsNone(asked(self, last_open, [(2, 5), (0, 2)], time))
        self.assertEqual(asked(self, last_open, [(2, 5), (0, 2)], 5), 5)
        self.assertEqual(asked(self, last_open, [(1, 5)], 4), 0)
        self.assertIsNone(asked(self, last_open, [(0, GREATEST)], GREATEST - 1))

    def test_of_times_below_0(self):
        for time in (-1, -2, -HUGE):
            for closed in ([], [(0, 3)], [(3, 5)]):
                self.assertIsNone(asked(self, last_open, closed, time))


class Drawn(unittest.TestCase):
    def draw(self):
        chance = random.Random(7)
        for number in range(400):
            closed = []
            for one in range(chance.randint(0, 6)):
                start = chance.randint(0, 13)
                closed.append((start, chance.randint(start + 1, 15)))
            yield closed

    def test_joined_closes_the_same_times_by_the_fewest(self):
        for closed in self.draw():
            with self.subTest(closed=closed):
                joined = asked(self, joined_stretches, closed)
                shut = [is_shut(closed, time) for time in range(17)]
                self.assertEqual([is_shut(joined, time) for time in range(17)], shut)
                self.assertEqual(joined, sorted(joined))
                runs = [key for key, run in itertools.groupby(shut)]
                self.assertEqual(len(joined), runs.count(True))

    def test_open_times_by_trying(self):
        for closed in self.draw():
            for time in range(17):
                with self.subTest(closed=closed, time=time):
                    self.assertIs(is_open(closed, time), not is_shut(closed, time))
                    behind = [other for other in range(time, 17) if not is_shut(closed, other)]
                    self.assertEqual(next_open(closed, time), behind[0])
                    ahead = [other for other in range(time + 1) if not is_shut(closed, other)]
                    self.assertEqual(last_open(closed, time), ahead[-1] if ahead else None)


if __name__ == "__main__":
    unittest.main()
