"""Points 2 and 15: orders within a shift, and their beginnings."""

import itertools
import unittest

from tests.drawn import asked, orders_by_trying, refused
from wakeorder.errors import TooMany
from wakeorder.shifts import beginnings_of, is_within, many_orders, orders_within

# How many orders there are of 0 flights on, for each shift; the last one of each row is above 5,000.
FEW = {
    1: [1, 1, 2, 3, 5, 8, 13, 21, 34, 55, 89, 144, 233, 377, 610, 987, 1597, 2584, 4181, 6765],
    2: [1, 1, 2, 6, 14, 31, 73, 172, 400, 932, 2177, 5081],
    3: [1, 1, 2, 6, 24, 78, 230, 675, 2069, 6404],
}


class IsWithin(unittest.TestCase):
    def tell(self, order, shift):
        answer = asked(self, is_within, order, shift)
        self.assertIsInstance(answer, bool)
        return answer

    def test_no_flights(self):
        for shift in range(4):
            self.assertIs(self.tell([], shift), True)

    def test_the_furthest_counts(self):
        for order, least in (
            ([0], 0), ([0, 1, 2], 0), ([1, 0, 2], 1), ([0, 2, 1], 1), ([1, 2, 0], 2), ([2, 0, 1], 2),
            ([2, 1, 0], 2), ([1, 2, 3, 0], 3), ([3, 0, 1, 2], 3), ([0, 4, 1, 2, 3], 3), ([1, 2, 3, 4, 0], 4),
            ([4, 0, 1, 2, 3], 4),
        ):
            for shift in range(4):
                with self.subTest(order=order, shift=shift):
                    self.assertIs(self.tell(order, shift), shift >= least)

    def test_forty_flights(self):
        order = list(range(40))
        self.assertIs(self.tell(order, 0), True)
        order[36:] = [39, 36, 37, 38]
        self.assertEqual([self.tell(order, shift) for shift in range(4)], [False, False, False, True])


class BeginningsOf(unittest.TestCase):
    def test_small_ones_by_trying(self):
        for many in range(8):
            for shift in range(4):
                orders = orders_by_trying(many, shift)
                for size in range(many + 1):
                    with self.subTest(many=many, shift=shift, size=size):
                        tried = sorted({tuple(sorted(order[:size])) for order in orders})
                        self.assertEqual(asked(self, beginnings_of, many, shift, size), tried)

    def test_0_flights(self):
        for shift in range(4):
            self.assertEqual(asked(self, beginnings_of, 0, shift, 0), [()])

    def test_none_and_all(self):
        for many in (1, 5, 40):
            for shift in range(4):
                self.assertEqual(asked(self, beginnings_of, many, shift, 0), [()])
                self.assertEqual(asked(self, beginnings_of, many, shift, many), [tuple(range(many))])

    def test_forty_flights(self):
        for size in range(41):
            self.assertEqual(asked(self, beginnings_of, 40, 0, size), [tuple(range(size))])
            for shift in (1, 2, 3):
                with self.subTest(size=size, shift=shift):
                    told = asked(self, beginnings_of, 40, shift, size)
                    self.assertEqual(told, sorted(told))
                    self.assertEqual(told, self.around(40, shift, size))

    def around(self, many, shift, size):
        """By the point's second half: all sets that differ around their end, each one held against the shift."""
        low = max(0, size - 2 * shift)
        found = []
        for some in itertools.combinations(range(low, min(many, size + 2 * shift)), size - low):
            some = tuple(range(low)) + some
            order = list(some) + [flight for flight in range(many) if flight not in some]
            if all(abs(flight - place) <= shift for place, flight in enumerate(order)):
                found.append(some)
        return found

    def test_somewhat_beyond_the_bounds(self):
        for shift in (4, 5):
            for many in (3, 6, 7):
                orders = orders_by_trying(many, shift)
                for size in range(many + 1):
                    with self.subTest(many=many, shift=shift, size=size):
                        tried = sorted({tuple(sorted(order[:size])) for order in orders})
                        self.assertEqual(asked(self, beginnings_of, many, shift, size), tried)
        self.assertEqual(asked(self, beginnings_of, 43, 0, 42), [tuple(range(42))])

    def test_how_many_in_the_middle_of_forty(self):
        self.assertEqual([len(beginnings_of(40, shift, 20)) for shift in range(4)], [1, 2, 6, 20])


class ManyOrders(unittest.TestCase):
    def test_small_ones_by_counting(self):
        for many in range(9):
            for shift in range(4):
                with self.subTest(many=many, shift=shift):
                    self.assertEqual(asked(self, many_orders, many, shift), len(orders_by_trying(many, shift)))

    def test_shift_0(self):
        for many in range(41):
            self.assertEqual(asked(self, many_orders, many, 0), 1)

    def test_shift_1(self):
        counts = [1, 1]
        while len(counts) < 41:
            counts.append(counts[-1] + counts[-2])
        self.assertEqual([asked(self, many_orders, many, 1) for many in range(41)], counts)

    def test_greater_shifts(self):
        for shift, counts in FEW.items():
            self.assertEqual([asked(self, many_orders, many, shift) for many in range(len(counts))], counts)

    def test_forty_flights_by_counting_places(self):
        for shift in range(4):
            for many in (20, 39, 40, 43):
                with self.subTest(many=many, shift=shift):
                    self.assertEqual(asked(self, many_orders, many, shift), self.counted(many, shift))

    def test_somewhat_beyond_the_greatest_shift(self):
        self.assertEqual([asked(self, many_orders, many, 4) for many in range(9)],
                         [len(orders_by_trying(many, 4)) for many in range(9)])
        self.assertEqual(asked(self, many_orders, 40, 4), self.counted(40, 4))

    def counted(self, many, shift):
        """Place by place, by which of the flights nearby are taken already."""
        counts = {frozenset(): 1}
        for place in range(many):
            grown = {}
            for taken, count in counts.items():
                for flight in range(max(0, place - shift), min(many, place + shift + 1)):
                    if flight not in taken:
                        near = frozenset(one for one in taken | {flight} if one > place - shift)
                        grown[near] = grown.get(near, 0) + count
            counts = grown
        # Each place has an own flight, so that all flights are taken.
        return sum(counts.values())


class OrdersWithin(unittest.TestCase):
    def test_small_ones_by_trying(self):
        for many in range(8):
            for shift in range(4):
                with self.subTest(many=many, shift=shift):
                    told = asked(self, orders_within, many, shift)
                    self.assertEqual(told, orders_by_trying(many, shift))
                    self.assertEqual(told, sorted(told))

    def test_no_flights(self):
        for shift in range(4):
            self.assertEqual(asked(self, orders_within, 0, shift), [[]])

    def test_forty_flights(self):
        self.assertEqual(asked(self, orders_within, 40, 0), [list(range(40))])
        for shift in (1, 2, 3):
            refused(self, TooMany, orders_within, 40, shift)

    def test_the_most_that_are_told(self):
        for shift, counts in FEW.items():
            with self.subTest(shift=shift):
                many = len(counts) - 2
                told = asked(self, orders_within, many, shift)
                self.assertEqual(len(told), counts[-2])
                self.assertEqual(told, sorted(told))
                self.assertEqual(len({tuple(order) for order in told}), len(told))
                for order in told:
                    self.assertEqual(sorted(order), list(range(many)))
                    self.assertIs(is_within(order, shift), True)

    def test_one_flight_more_is_too_many(self):
        for shift, counts in FEW.items():
            for many in (len(counts) - 1, len(counts)):
                with self.subTest(shift=shift, many=many):
                    refused(self, TooMany, orders_within, many, shift)

    def test_each_order_is_a_list_of_its_own(self):
        told = orders_within(3, 1)
        told[0].append(9)
        self.assertEqual(told[1:], [[0, 2, 1], [1, 0, 2]])


if __name__ == "__main__":
    unittest.main()
