"""Points 2, 16 and 17: labels."""

import random
import unittest

from tests.drawn import asked, drawn_closed, drawn_flights, drawn_rules, is_shut
from wakeorder.labels import first_label, is_no_worse, label_behind
from wakeorder.rules import Pair, Rules

GREATEST = 10 ** 9
HUGE = 10 ** 5000
ONE = Rules([[3, 4], [5, 6]])
TWO = Pair([[3, 4], [5, 6]], [[1, 0], [2, 7]])


class FirstLabel(unittest.TestCase):
    def test_one_strip(self):
        for kinds in range(1, 7):
            rules = Rules([[1] * kinds] * kinds)
            self.assertEqual(asked(self, first_label, rules), (0, ((-1,) * kinds,)))

    def test_two_strips(self):
        for kinds in range(1, 7):
            rules = Pair([[1] * kinds] * kinds, [[1] * kinds] * kinds)
            self.assertEqual(asked(self, first_label, rules), (0, ((-1,) * kinds, (-1,) * kinds)))


class LabelBehind(unittest.TestCase):
    FLIGHTS = [(0, 10, 50, 20, 3), (1, 0, 50, 20, 7)]

    def assert_behind(self, rules, label, flight, strip, answer, closed=(), flights=None):
        with self.subTest(flight=flight, strip=strip):
            told = asked(self, label_behind, rules, flights or self.FLIGHTS, list(closed), label, flight, strip)
            self.assertEqual(told, answer)

    def test_behind_the_first_label(self):
        self.assert_behind(ONE, first_label(ONE), 0, 0, (0, ((10, -1),)))
        self.assert_behind(ONE, first_label(ONE), 1, 0, (0, ((-1, 0),)))
        self.assert_behind(TWO, first_label(TWO), 0, 0, (0, ((10, -1), (-1, -1))))
        self.assert_behind(TWO, first_label(TWO), 0, 1, (0, ((-1, -1), (10, -1))))
        self.assert_behind(TWO, first_label(TWO), 1, 1, (0, ((-1, -1), (-1, 0))))

    def test_minus_1_is_no_time(self):
        # Were it one, the gap of 20 from it would move the flight to 19.
        rules = Rules([[20]])
        self.assert_behind(rules, (0, ((-1,),)), 0, 0, (0, ((0,),)), flights=[(0, 0, 50, 0, 1)])
        self.assert_behind(rules, (0, ((0,),)), 0, 0, (20, ((20,),)), flights=[(0, 0, 50, 0, 1)])

    def test_one_strip(self):
        self.assert_behind(ONE, (5, ((22, -1),)), 0, 0, (5 + 15, ((25, -1),)))
        self.assert_behind(ONE, (5, ((22, -1),)), 1, 0, (5 + 42, ((22, 26),)))
        self.assert_behind(ONE, (5, ((22, 21),)), 0, 0, (5 + 18, ((26, 21),)))
        self.assert_behind(ONE, (5, ((22, 19),)), 0, 0, (5 + 15, ((25, 19),)))
        self.assert_behind(ONE, (5, ((2, 1),)), 0, 0, (5, ((10, 1),)))

    def test_two_strips(self):
        label = (0, ((30, -1), (-1, 29)))
        self.assert_behind(TWO, label, 0, 0, (39, ((33, -1), (-1, 29))))
        self.assert_behind(TWO, label, 0, 1, (42, ((30, -1), (34, 29))))
        self.assert_behind(TWO, label, 1, 0, (112, ((30, 36), (-1, 29))))
        self.assert_behind(TWO, label, 1, 1, (105, ((30, -1), (-1, 35))))

    def test_each_last_time_counts(self):
        self.assert_behind(TWO, (0, ((40, -1), (-1, -1))), 0, 0, (69, ((43, -1), (-1, -1))))
        self.assert_behind(TWO, (0, ((-1, 40), (-1, -1))), 0, 0, (75, ((45, 40), (-1, -1))))
        self.assert_behind(TWO, (0, ((-1, -1), (40, -1))), 0, 0, (63, ((41, -1), (40, -1))))
        self.assert_behind(TWO, (0, ((-1, -1), (-1, 40))), 0, 0, (66, ((42, -1), (-1, 40))))

    def test_closed_stretches(self):
        closed = [(25, 28), (28, 31)]
        self.assert_behind(ONE, (5, ((22, -1),)), 0, 0, (5 + 33, ((31, -1),)), closed)
        self.assert_behind(ONE, (5, ((21, -1),)), 0, 0, (5 + 12, ((24, -1),)), closed)

    def test_none_where_the_time_is_beyond(self):
        self.assert_behind(ONE, (5, ((47, -1),)), 0, 0, (5 + 90, ((50, -1),)))
        self.assert_behind(ONE, (5, ((48, -1),)), 0, 0, None)
        self.assert_behind(ONE, (5, ((44, -1),)), 0, 0, None, [(47, 51)])
        self.assert_behind(ONE, (5, ((44, -1),)), 0, 0, (5 + 90, ((50, -1),)), [(47, 50)])

    def test_any_lasts_from_minus_1_on(self):
        self.assert_behind(ONE, (5, ((HUGE, -1),)), 0, 0, None)
        self.assert_behind(ONE, (5, ((GREATEST, HUGE),)), 1, 0, None)
        flights = [(0, GREATEST, GREATEST, 0, GREATEST)]
        self.assert_behind(ONE, (HUGE, ((0, 0),)), 0, 0, (HUGE + GREATEST ** 2, ((GREATEST, 0),)), flights=flights)
        # A last time may lie behind that of its neighbours, as no plan would have it.
        self.assert_behind(ONE, (0, ((0, 45),)), 0, 0, (90, ((50, 45),)))

    def test_drawn(self):
        chance = random.Random(16)
        beyond = 0
        for number in range(600):
            rules = drawn_rules(chance)
            flights = drawn_flights(chance, rules, 2, 12)
            closed = drawn_closed(chance, 3, 12)
            lasts = tuple(tuple(chance.randint(-1, 7) for kind in range(rules.many_kinds()))
                          for strip in range(rules.many_strips()))
            label = (chance.randint(0, 9), lasts)
            flight = chance.randrange(2)
            strip = chance.randrange(rules.many_strips())
            with self.subTest(number=number):
                answer = self.tried(rules, flights[flight], closed, label, strip)
                beyond += answer is None
                self.assertEqual(asked(self, label_behind, rules, flights, closed, label, flight, strip), answer)
        self.assertTrue(50 < beyond < 550)

    def tried(self, rules, flight, closed, label, strip):
        kind, first, last, due, price = flight
        for time in range(first, last + 1):
            gaps = [time >= there + rules.apart((other, beside), (kind, strip))
                    for beside, row in enumerate(label[1]) for other, there in enumerate(row) if there != -1]
            if all(gaps) and not is_shut(closed, time):
                lasts = [list(row) for row in label[1]]
                lasts[strip][kind] = time
                return label[0] + price * max(0, time - due), tuple(tuple(row) for row in lasts)
        return None


class IsNoWorse(unittest.TestCase):
    def tell(self, one, other):
        answer = asked(self, is_no_worse, one, other)
        self.assertIsInstance(answer, bool)
        return answer

    def test_alike(self):
        for label in ((0, ((-1,),)), (5, ((3, -1), (0, HUGE)))):
            self.assertIs(self.tell(label, label), True)

    def test_cost(self):
        self.assertIs(self.tell((4, ((3, 3),)), (5, ((3, 3),))), True)
        self.assertIs(self.tell((5, ((3, 3),)), (4, ((3, 3),))), False)
        self.assertIs(self.tell((5, ((1, 1),)), (4, ((3, 3),))), False)

    def test_each_of_the_lasts(self):
        for strips in (1, 2):
            for kinds in (1, 2, 6):
                for strip in range(strips):
                    for kind in range(kinds):
                        lasts = [[3] * kinds for number in range(strips)]
                        lasts[strip][kind] = 4
                        greater = (5, tuple(tuple(row) for row in lasts))
                        plain = (5, ((3,) * kinds,) * strips)
                        with self.subTest(strips=strips, kinds=kinds, strip=strip, kind=kind):
                            self.assertIs(self.tell(plain, greater), True)
                            self.assertIs(self.tell(greater, plain), False)
                            self.assertIs(self.tell((0,) + greater[1:], plain), False)

    def test_minus_1_is_the_least(self):
        self.assertIs(self.tell((5, ((-1, 3),)), (5, ((0, 3),))), True)
        self.assertIs(self.tell((5, ((0, 3),)), (5, ((-1, 3),))), False)

    def test_neither(self):
        self.assertIs(self.tell((5, ((2, 4),)), (5, ((4, 2),))), False)
        self.assertIs(self.tell((5, ((4, 2),)), (5, ((2, 4),))), False)

    def test_what_is_put_behind_is_no_worse(self):
        chance = random.Random(17)
        for number in range(500):
            rules = drawn_rules(chance)
            flights = drawn_flights(chance, rules, 1, 12)
            closed = drawn_closed(chance, 3, 12)
            strip = chance.randrange(rules.many_strips())
            pairs = [[(last, last + chance.choice((0, 0, 1, 3))) for last in
                      [chance.randint(-1, 6) for kind in range(rules.many_kinds())]]
                     for beside in range(rules.many_strips())]
            one = (3, tuple(tuple(pair[0] for pair in row) for row in pairs))
            other = (chance.randint(3, 5), tuple(tuple(pair[1] for pair in row) for row in pairs))
            self.assertIs(self.tell(one, other), True)
            behind = label_behind(rules, flights, closed, other, 0, strip)
            if behind is not None:
                self.assertIs(self.tell(label_behind(rules, flights, closed, one, 0, strip), behind), True)


if __name__ == "__main__":
    unittest.main()
