"""Points 2, 3, 18, 19 and 20: papers."""

import copy
import itertools
import random
import unittest

from tests.drawn import (
    MOST_PLANS, TOO_MANY_PLANS, asked, best_by_trying, drawn_inputs, flat, great_input, labels_by_trying,
    orders_by_trying, plans_by_trying, refused,
)
from wakeorder.errors import TooMany
from wakeorder.labels import label_behind
from wakeorder.papers import is_paper, many_plans, paper_of
from wakeorder.rules import Pair, Rules
from wakeorder.shifts import beginnings_of, orders_within

ONE = Rules([[3, 4], [5, 6]])
TWO = Pair([[3, 4], [5, 6]], [[1, 0], [2, 7]])


def rules_of(strips):
    return (ONE, TWO)[strips - 1]


def is_paper_by_trying(rules, flights, closed, shift, paper):
    """Point 18, word by word."""
    many = len(flights)
    orders = orders_by_trying(many, shift)
    beginnings = {tuple(sorted(order[:size])) for order in orders for size in range(many + 1)}
    if set(paper) != beginnings:
        return False
    if paper[()] != [(0, ((-1,) * rules.many_kinds(),) * rules.many_strips())]:
        return False
    behind = {some: [] for some in beginnings}
    for some in beginnings:
        for flight in range(many):
            more = tuple(sorted(some + (flight,)))
            if flight not in some and more in beginnings:
                for label, strip in itertools.product(paper[some], range(rules.many_strips())):
                    behind[more].append(label_behind(rules, flights, closed, label, flight, strip))
    for some in beginnings - {()}:
        if any(label not in behind[some] for label in paper[some]):
            return False
        for label in behind[some]:
            if label and not any(all(a <= b for a, b in zip(flat(one), flat(label))) for one in paper[some]):
                return False
    return True


class ManyPlans(unittest.TestCase):
    def test_small_ones_by_counting(self):
        for rules in (ONE, TWO):
            for many in range(5):
                for shift in range(4):
                    with self.subTest(strips=rules.many_strips(), many=many, shift=shift):
                        self.assertEqual(asked(self, many_plans, rules, many, shift),
                                         len(plans_by_trying(rules, many, shift)))

    def test_no_flights(self):
        for rules in (ONE, TWO):
            for shift in range(4):
                self.assertEqual(asked(self, many_plans, rules, 0, shift), 1)

    def test_greater_ones(self):
        for strips, many, shift, plans in MOST_PLANS + TOO_MANY_PLANS:
            with self.subTest(strips=strips, many=many, shift=shift):
                self.assertEqual(asked(self, many_plans, rules_of(strips), many, shift), plans)


class PaperOf(unittest.TestCase):
    def test_no_flights(self):
        for shift in range(4):
            self.assertEqual(asked(self, paper_of, ONE, [], [(0, 9)], shift), {(): [(0, ((-1, -1),))]})
            self.assertEqual(asked(self, paper_of, TWO, [], [], shift), {(): [(0, ((-1, -1), (-1, -1)))]})

    def test_one_strip(self):
        flights = [(0, 0, 50, 1, 2), (1, 0, 50, 0, 3)]
        self.assertEqual(asked(self, paper_of, ONE, flights, [], 0), {
            (): [(0, ((-1, -1),))], (0,): [(0, ((0, -1),))], (0, 1): [(12, ((0, 4),))],
        })
        self.assertEqual(asked(self, paper_of, ONE, flights, [], 1), {
            (): [(0, ((-1, -1),))], (0,): [(0, ((0, -1),))], (1,): [(0, ((-1, 0),))],
            (0, 1): [(8, ((5, 0),)), (12, ((0, 4),))],
        })

    def test_a_worse_label_is_not_told(self):
        flights = [(0, 0, 50, 0, 1), (0, 0, 50, 0, 9)]
        self.assertEqual(asked(self, paper_of, Rules([[5]]), flights, [], 1), {
            (): [(0, ((-1,),))], (0,): [(0, ((0,),))], (1,): [(0, ((0,),))], (0, 1): [(5, ((5,),))],
        })

    def test_two_strips(self):
        flights = [(0, 0, 50, 0, 1), (0, 0, 50, 0, 1)]
        self.assertEqual(asked(self, paper_of, Pair([[5]], [[2]]), flights, [], 0), {
            (): [(0, ((-1,), (-1,)))], (0,): [(0, ((-1,), (0,))), (0, ((0,), (-1,)))],
            (0, 1): [(2, ((0,), (2,))), (2, ((2,), (0,))), (5, ((-1,), (5,))), (5, ((5,), (-1,)))],
        })

    def test_no_labels_where_there_are_no_times(self):
        flights = [(0, 0, 50, 0, 1), (0, 0, 4, 0, 1), (0, 0, 50, 0, 1)]
        self.assertEqual(asked(self, paper_of, Rules([[5]]), flights, [], 0), {
            (): [(0, ((-1,),))], (0,): [(0, ((0,),))], (0, 1): [], (0, 1, 2): [],
        })

    def test_held_against_all_plans(self):
        unlike = 0
        for rules, flights, closed, shift in drawn_inputs(18, 250):
            with self.subTest(gaps=rules.gap_rows(), flights=flights, closed=closed, shift=shift):
                labels = labels_by_trying(rules, flights, closed, plans_by_trying(rules, len(flights), shift))
                paper = asked(self, paper_of, rules, flights, closed, shift)
                self.assertEqual(paper, {some: best_by_trying(labels[some]) for some in labels})
                unlike += any(len(told) > 1 for told in paper.values())
        self.assertGreater(unlike, 80)

    def test_too_many(self):
        for strips, many, shift, plans in TOO_MANY_PLANS:
            with self.subTest(strips=strips, many=many, shift=shift):
                refused(self, TooMany, paper_of, rules_of(strips), [(0, 0, 9, 0, 1)] * many, [], shift)

    def test_at_the_bounds(self):
        for strips, many, shift, plans in MOST_PLANS:
            with self.subTest(strips=strips, many=many, shift=shift):
                rules, flights, closed = great_input(strips, many, shift)
                paper = asked(self, paper_of, rules, flights, closed, shift)
                self.assertIs(asked(self, is_paper, rules, flights, closed, shift, paper), True)
                chosen = list(itertools.product(range(strips), repeat=many))
                told = [list(zip(order, some)) for order in orders_within(many, shift) for some in chosen]
                labels = labels_by_trying(rules, flights, closed, told)
                self.assertEqual(sorted(paper), sorted(labels))
                for some in paper:
                    self.assert_best(paper[some], labels[some])

    def assert_best(self, told, labels):
        """As by best_by_trying, but each held against those alone that are told."""
        self.assertTrue(set(told) <= labels)
        self.assertEqual(told, sorted(set(told)))
        bounds = [(label, flat(label)) for label in told]
        for label in labels:
            numbers = flat(label)
            no_worse = [one for one, others in bounds if all(a <= b for a, b in zip(others, numbers))]
            self.assertTrue(no_worse)
            if label in no_worse:
                self.assertEqual(no_worse, [label])


class IsPaper(unittest.TestCase):
    FLIGHTS = [(0, 0, 50, 1, 2), (1, 0, 50, 0, 3), (0, 5, 50, 7, 4)]

    def setUp(self):
        self.paper = paper_of(ONE, self.FLIGHTS, [(9, 12)], 1)

    def tell(self, paper, rules=ONE, flights=None, closed=((9, 12),), shift=1):
        answer = asked(self, is_paper, rules, self.FLIGHTS if flights is None else flights, list(closed), shift, paper)
        self.assertIsInstance(answer, bool)
        return answer

    def test_what_is_told_is_one(self):
        self.assertIs(self.tell(self.paper), True)

    def test_no_flights(self):
        self.assertIs(self.tell({(): [(0, ((-1, -1),))]}, flights=[]), True)
        self.assertIs(self.tell({}, flights=[]), False)
        self.assertIs(self.tell({(): []}, flights=[]), False)
        self.assertIs(self.tell({(): [(0, ((-1, -1),))], (0,): []}, flights=[]), False)

    def test_a_key_too_few(self):
        for some in list(self.paper):
            paper = copy.deepcopy(self.paper)
            del paper[some]
            with self.subTest(some=some):
                self.assertIs(self.tell(paper), False)

    def test_a_key_too_many(self):
        for some in ((2,), (1, 2), (3,), (0, 3), (0, 1, 2, 3), (0, 3, 4)):
            for labels in ([], self.paper[()]):
                with self.subTest(some=some):
                    self.assertIs(self.tell({**self.paper, some: labels}), False)

    def test_one_key_for_another(self):
        paper = copy.deepcopy(self.paper)
        paper[(2,)] = paper.pop((1,))
        self.assertIs(self.tell(paper), False)

    def test_keys_and_labels_in_any_order(self):
        paper = {some: self.paper[some][::-1] for some in reversed(list(self.paper))}
        self.assertIs(self.tell(paper), True)
        self.assertGreater(len(paper[(0, 1)]), 1)

    def test_a_first_list_otherwise(self):
        first = self.paper[()][0]
        for labels in ([], [first, first], [(1, ((-1, -1),))], [(0, ((0, -1),))], [(0, ((-1, 0),))],
                       [first, (0, ((0, 0),))], [(-1, ((-1, -1),))]):
            with self.subTest(labels=labels):
                self.assertIs(self.tell({**self.paper, (): labels}), False)

    def test_a_label_that_is_behind_none(self):
        for some in self.paper:
            for cost, lasts in self.paper[some] if some else []:
                for label in ((cost + 1, lasts), (cost - 1, lasts), (cost, ((lasts[0][0], lasts[0][1] + 1),)),
                              (cost, ((lasts[0][0] + 1, lasts[0][1]),)), (0, ((-1, -1),))):
                    with self.subTest(some=some, label=label):
                        self.assertIs(self.tell({**self.paper, some: self.paper[some] + [label]}), False)
                        self.assertIs(self.tell({**self.paper, some: [label] + self.paper[some]}), False)

    def test_a_label_left_out(self):
        for some in self.paper:
            for label in self.paper[some]:
                paper = copy.deepcopy(self.paper)
                paper[some].remove(label)
                with self.subTest(some=some, label=label):
                    self.assertIs(self.tell(paper), False)

    def test_a_label_more_that_is_behind_one(self):
        flights = [(0, 0, 50, 0, 1), (0, 0, 50, 0, 9)]
        rules = Rules([[5]])
        paper = paper_of(rules, flights, [], 1)
        self.assertEqual(paper[(0, 1)], [(5, ((5,),))])
        paper[(0, 1)].append((45, ((5,),)))
        self.assertIs(self.tell(paper, rules, flights, []), True)
        paper[(0, 1)].pop(0)
        self.assertIs(self.tell(paper, rules, flights, []), False)

    def test_a_label_twice(self):
        self.assertIs(self.tell({**self.paper, (0, 1): self.paper[(0, 1)] * 2}), True)

    def test_other_rules_flights_stretches_or_shift(self):
        self.assertIs(self.tell(self.paper, closed=[(9, 13)]), False)
        self.assertIs(self.tell(self.paper, closed=[(2, 3), (9, 12)]), True)
        self.assertIs(self.tell(self.paper, rules=ONE.with_gap(0, 1, 3)), False)
        self.assertIs(self.tell(self.paper, flights=self.FLIGHTS[:2]), False)
        self.assertIs(self.tell(self.paper, flights=self.FLIGHTS + [(0, 5, 50, 7, 4)]), False)
        for shift in (0, 2, 3):
            self.assertIs(self.tell(self.paper, shift=shift), False)

    def test_no_labels_where_there_are_no_times(self):
        flights = [(0, 0, 50, 0, 1), (0, 0, 4, 0, 1)]
        first = (0, ((-1,),))
        rules = Rules([[5]])
        self.assertIs(self.tell({(): [first], (0,): [(0, ((0,),))], (0, 1): []}, rules, flights, [], 0), True)
        self.assertIs(self.tell({(): [first], (0,): [], (0, 1): []}, rules, flights, [], 0), False)
        self.assertIs(
            self.tell({(): [first], (0,): [(0, ((0,),))], (0, 1): [(5, ((5,),))]}, rules, flights, [], 0), False)

    def test_behind_a_label_that_the_paper_does_not_have(self):
        # By way of strip 1 one comes to the last label, but the paper's way goes by strip 0 alone.
        flights = [(0, 0, 50, 0, 1)]
        rules = Pair([[5]], [[2]])
        first = (0, ((-1,), (-1,)))
        self.assertIs(self.tell({(): [first], (0,): [(0, ((0,), (-1,)))]}, rules, flights, [], 0), False)
        self.assertIs(
            self.tell({(): [first], (0,): [(0, ((0,), (-1,))), (0, ((-1,), (0,)))]}, rules, flights, [], 0), True)

    def test_drawn_papers_that_are_changed(self):
        chance = random.Random(19)
        answers = {True: 0, False: 0}
        for rules, flights, closed, shift in drawn_inputs(20, 300):
            paper = paper_of(rules, flights, closed, shift)
            self.assertIs(self.tell(paper, rules, flights, closed, shift), True)
            labels = labels_by_trying(rules, flights, closed, plans_by_trying(rules, len(flights), shift))
            self.assertIs(self.tell({some: sorted(labels[some]) for some in labels}, rules, flights, closed, shift),
                          True)
            for number in range(3):
                changed = copy.deepcopy(paper)
                for some in chance.sample(list(paper), chance.randint(1, min(2, len(paper)))):
                    self.change(chance, changed, some, sorted(labels[some]))
                with self.subTest(gaps=rules.gap_rows(), flights=flights, closed=closed, shift=shift, paper=changed):
                    answer = is_paper_by_trying(rules, flights, closed, shift, changed)
                    answers[answer] += 1
                    self.assertIs(self.tell(changed, rules, flights, closed, shift), answer)
        self.assertGreater(answers[True], 100)
        self.assertGreater(answers[False], 300)

    def change(self, chance, paper, some, labels):
        way = chance.randrange(3)
        if way == 0 and paper[some]:
            paper[some].remove(chance.choice(paper[some]))
        elif way == 1 and labels:
            paper[some].append(chance.choice(labels))
        elif labels:
            cost, lasts = chance.choice(labels)
            paper[some].append((cost + chance.choice((0, 1)), lasts))

    def test_too_many(self):
        for strips, many, shift, plans in TOO_MANY_PLANS:
            for paper in ({}, {(): [(0, ((-1, -1),) * strips)]}):
                with self.subTest(strips=strips, many=many, shift=shift):
                    refused(self, TooMany, is_paper, rules_of(strips), [(0, 0, 9, 0, 1)] * many, [], shift, paper)

    def test_all_labels_at_the_bounds(self):
        for strips, many, shift, plans in MOST_PLANS:
            with self.subTest(strips=strips, many=many, shift=shift):
                rules, flights, closed = great_input(strips, many, shift)
                paper = self.all_labels(rules, flights, closed, shift)
                self.assertIs(self.tell(paper, rules, flights, closed, shift), True)
                paper[tuple(range(many))].append((0, ((-1,) * 6,) * strips))
                self.assertIs(self.tell(paper, rules, flights, closed, shift), False)

    def all_labels(self, rules, flights, closed, shift):
        many = len(flights)
        paper = {(): [(0, ((-1,) * rules.many_kinds(),) * rules.many_strips())]}
        for size in range(1, many + 1):
            for some in beginnings_of(many, shift, size):
                behind = [label_behind(rules, flights, closed, label, flight, strip) for flight in some
                          for label in paper.get(tuple(one for one in some if one != flight), [])
                          for strip in range(rules.many_strips())]
                paper[some] = [label for label in dict.fromkeys(behind) if label is not None]
        return paper


class Promise(unittest.TestCase):
    def test_the_least_cost_of_a_paper_is_that_of_the_best_plan(self):
        for rules, flights, closed, shift in drawn_inputs(23, 150):
            with self.subTest(gaps=rules.gap_rows(), flights=flights, closed=closed, shift=shift):
                plans = plans_by_trying(rules, len(flights), shift)
                everyone = tuple(range(len(flights)))
                tried = labels_by_trying(rules, flights, closed, plans)[everyone]
                told = paper_of(rules, flights, closed, shift)[everyone]
                self.assertEqual(min([label[0] for label in told], default=None),
                                 min([label[0] for label in tried], default=None))


if __name__ == "__main__":
    unittest.main()
