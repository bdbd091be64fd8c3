"""Points 2, 4 and 5: the rules for one strip and for two."""

import copy
import unittest

from wakeorder.errors import NoRules
from wakeorder.rules import Pair, Rules

GREATEST = 10 ** 6


def numbered_rows(kinds, start):
    """Rows in which no two numbers are the same."""
    return [[start + kinds * one + other for other in range(kinds)] for one in range(kinds)]


def filled_rows(kinds, number):
    return [[number] * kinds for one in range(kinds)]


def wrong_numbers():
    return [
        -1, GREATEST + 1, -GREATEST, 10 ** 9, 10 ** 5000, -10 ** 5000, True, False, None, "", "5", "gap",
        [], [5], (), (5,), {}, {5: 5}, 5.0, 0.5, float("nan"), float("inf"), 5j, b"5", object(), int, len,
    ]


def wrong_rows():
    """Lists of lists that are no gaps, whatever the numbers."""
    return [
        [],
        [[]],
        [[], []],
        filled_rows(7, 1),
        filled_rows(8, 1),
        [[1], [1]],
        [[1, 1]],
        [[1, 1], [1, 1], [1, 1]],
        [[1, 1, 1], [1, 1, 1]],
        [[1, 1], [1]],
        [[1], [1, 1]],
        [[1, 1], []],
        [[1, 1], [1, 1, 1]],
        [[1, 1, 1], [1, 1]],
        [[1] * 7] * 6,
        [[1] * 6] * 7,
        [[1] * 6] * 5,
    ]


class Made(unittest.TestCase):
    def test_one_to_six_kinds(self):
        for kinds in range(1, 7):
            with self.subTest(kinds=kinds):
                rules = Rules(numbered_rows(kinds, 3))
                self.assertEqual(rules.many_kinds(), kinds)
                self.assertEqual(rules.many_strips(), 1)
                self.assertEqual(rules.gap_rows(), numbered_rows(kinds, 3))

    def test_one_to_six_kinds_and_two_strips(self):
        for kinds in range(1, 7):
            with self.subTest(kinds=kinds):
                rules = Pair(numbered_rows(kinds, 3), numbered_rows(kinds, 500))
                self.assertEqual(rules.many_kinds(), kinds)
                self.assertEqual(rules.many_strips(), 2)
                self.assertEqual(rules.gap_rows(), numbered_rows(kinds, 3))
                self.assertEqual(rules.beside_rows(), numbered_rows(kinds, 500))

    def test_gaps_at_the_bounds(self):
        for kinds in range(1, 7):
            for gap in (0, 1, GREATEST - 1, GREATEST):
                with self.subTest(kinds=kinds, gap=gap):
                    rows = filled_rows(kinds, gap)
                    self.assertEqual(Rules(rows).gap_rows(), rows)
                    self.assertEqual(Pair(rows, filled_rows(kinds, 7)).gap_rows(), rows)
                    self.assertEqual(Pair(filled_rows(kinds, 7), rows).beside_rows(), rows)

    def test_a_pair_stands_under_rules(self):
        self.assertTrue(issubclass(Pair, Rules))
        self.assertIsInstance(Pair([[1]], [[2]]), Rules)
        self.assertNotIsInstance(Rules([[1]]), Pair)


class Refused(unittest.TestCase):
    def refuse_everywhere(self, rows, kinds):
        with self.assertRaises(NoRules):
            Rules(rows)
        with self.assertRaises(NoRules):
            Pair(rows, filled_rows(kinds, 1))
        with self.assertRaises(NoRules):
            Pair(filled_rows(kinds, 1), rows)
        with self.assertRaises(NoRules):
            Pair(rows, copy.copy(rows))

    def test_rows_of_a_wrong_form(self):
        for rows in wrong_rows():
            with self.subTest(rows=rows):
                self.refuse_everywhere(rows, min(max(len(rows), 1), 6))

    def test_a_wrong_number_at_each_place(self):
        for number in wrong_numbers():
            for kinds in (1, 2, 6):
                for one in range(kinds):
                    for other in range(kinds):
                        rows = filled_rows(kinds, 1)
                        rows[one][other] = number
                        with self.subTest(kinds=kinds, one=one, other=other, sort=number.__class__.__name__):
                            self.refuse_everywhere(rows, kinds)

    def test_a_row_that_has_itself(self):
        rows = filled_rows(2, 1)
        rows[1][0] = rows[1]
        self.refuse_everywhere(rows, 2)

    def test_unlike_numbers_of_kinds(self):
        for kinds in range(1, 7):
            for others in range(1, 7):
                if kinds != others:
                    with self.subTest(kinds=kinds, others=others):
                        with self.assertRaises(NoRules):
                            Pair(filled_rows(kinds, 1), filled_rows(others, 1))


class Apart(unittest.TestCase):
    def test_one_strip(self):
        for kinds in range(1, 7):
            rows = numbered_rows(kinds, 3)
            rules = Rules(rows)
            for one in range(kinds):
                for other in range(kinds):
                    with self.subTest(kinds=kinds, one=one, other=other):
                        self.assertEqual(rules.apart((one, 0), (other, 0)), rows[one][other])

    def test_two_strips(self):
        for kinds in range(1, 7):
            rows = numbered_rows(kinds, 3)
            beside = numbered_rows(kinds, 500)
            rules = Pair(rows, beside)
            for one in range(kinds):
                for other in range(kinds):
                    with self.subTest(kinds=kinds, one=one, other=other):
                        self.assertEqual(rules.apart((one, 0), (other, 0)), rows[one][other])
                        self.assertEqual(rules.apart((one, 1), (other, 1)), rows[one][other])
                        self.assertEqual(rules.apart((one, 0), (other, 1)), beside[one][other])
                        self.assertEqual(rules.apart((one, 1), (other, 0)), beside[one][other])


class WithGap(unittest.TestCase):
    def test_one_strip(self):
        for kinds in range(1, 7):
            rows = numbered_rows(kinds, 3)
            rules = Rules(rows)
            for one in range(kinds):
                for other in range(kinds):
                    for gap in (0, 77, GREATEST):
                        with self.subTest(kinds=kinds, one=one, other=other, gap=gap):
                            asked = numbered_rows(kinds, 3)
                            asked[one][other] = gap
                            changed = rules.with_gap(one, other, gap)
                            self.assertIs(changed.__class__, Rules)
                            self.assertEqual(changed.gap_rows(), asked)
                            self.assertEqual(changed.apart((one, 0), (other, 0)), gap)
                            self.assertEqual(rules.gap_rows(), rows)

    def test_two_strips(self):
        for kinds in range(1, 7):
            rows = numbered_rows(kinds, 3)
            beside = numbered_rows(kinds, 500)
            rules = Pair(rows, beside)
            for one in range(kinds):
                for other in range(kinds):
                    for gap in (0, 77, GREATEST):
                        with self.subTest(kinds=kinds, one=one, other=other, gap=gap):
                            asked = numbered_rows(kinds, 3)
                            asked[one][other] = gap
                            changed = rules.with_gap(one, other, gap)
                            self.assertIs(changed.__class__, Pair)
                            self.assertEqual(changed.many_strips(), 2)
                            self.assertEqual(changed.gap_rows(), asked)
                            self.assertEqual(changed.beside_rows(), beside)
                            self.assertEqual(changed.apart((one, 1), (other, 1)), gap)
                            self.assertEqual(changed.apart((one, 0), (other, 1)), beside[one][other])
                            self.assertEqual(rules.gap_rows(), rows)
                            self.assertEqual(rules.beside_rows(), beside)

    def test_the_same_gap_makes_other_rules(self):
        rules = Rules([[4]])
        same = rules.with_gap(0, 0, 4)
        self.assertIsNot(same, rules)
        self.assertEqual(same.gap_rows(), [[4]])

    def test_one_behind_the_other(self):
        rules = Pair(numbered_rows(2, 3), numbered_rows(2, 50)).with_gap(0, 1, 8).with_gap(1, 0, 9)
        self.assertEqual(rules.gap_rows(), [[3, 8], [9, 6]])
        self.assertEqual(rules.beside_rows(), numbered_rows(2, 50))

    def test_refused(self):
        for kinds in range(1, 7):
            for rules in (Rules(filled_rows(kinds, 1)), Pair(filled_rows(kinds, 1), filled_rows(kinds, 2))):
                for kind in (-1, -kinds, kinds, kinds + 1, 10 ** 5000, -10 ** 5000):
                    with self.subTest(kinds=kinds, strips=rules.many_strips(), bits=kind.bit_length()):
                        with self.assertRaises(NoRules):
                            rules.with_gap(kind, 0, 5)
                        with self.assertRaises(NoRules):
                            rules.with_gap(0, kind, 5)
                        with self.assertRaises(NoRules):
                            rules.with_gap(kind, kind, 5)
                for gap in (-1, -GREATEST, GREATEST + 1, 10 ** 9, 10 ** 5000, -10 ** 5000):
                    with self.subTest(kinds=kinds, strips=rules.many_strips(), bits=gap.bit_length()):
                        with self.assertRaises(NoRules):
                            rules.with_gap(0, kinds - 1, gap)
                self.assertEqual(rules.gap_rows(), filled_rows(kinds, 1))


class OwnLists(unittest.TestCase):
    def spoil(self, rows):
        for row in rows:
            row[0] = 999
            row.append(999)
        rows.append([999])

    def test_what_is_handed_in_is_not_changed(self):
        rows = numbered_rows(3, 3)
        beside = numbered_rows(3, 500)
        rules = Pair(rows, beside)
        rules.with_gap(1, 2, 77)
        Rules(rows).with_gap(1, 2, 77)
        self.assertEqual(rows, numbered_rows(3, 3))
        self.assertEqual(beside, numbered_rows(3, 500))

    def test_what_is_refused_is_not_changed(self):
        rows = [[1, 2], [3, True]]
        with self.assertRaises(NoRules):
            Rules(rows)
        self.assertEqual(rows, [[1, 2], [3, True]])
        self.assertIs(rows[1][1], True)

    def test_what_is_done_to_it_afterwards_changes_nothing(self):
        rows = numbered_rows(3, 3)
        beside = numbered_rows(3, 500)
        rules = Rules(rows)
        pair = Pair(rows, beside)
        self.spoil(rows)
        self.spoil(beside)
        self.assertEqual(rules.gap_rows(), numbered_rows(3, 3))
        self.assertEqual(pair.gap_rows(), numbered_rows(3, 3))
        self.assertEqual(pair.beside_rows(), numbered_rows(3, 500))
        self.assertEqual(pair.many_kinds(), 3)
        self.assertEqual(pair.apart((2, 0), (0, 0)), 9)
        self.assertEqual(pair.apart((2, 0), (0, 1)), 506)

    def test_every_list_that_is_told_is_a_new_one(self):
        rules = Rules(numbered_rows(3, 3))
        pair = Pair(numbered_rows(3, 3), numbered_rows(3, 500))
        for told in (rules.gap_rows, pair.gap_rows, pair.beside_rows):
            first = told()
            kept = copy.deepcopy(first)
            self.spoil(first)
            self.assertEqual(told(), kept)
        self.assertEqual(rules.apart((0, 0), (0, 0)), 3)
        self.assertEqual(pair.apart((0, 0), (0, 0)), 3)
        self.assertEqual(pair.apart((0, 0), (0, 1)), 500)
        self.assertEqual(pair.many_kinds(), 3)

    def test_changed_rules_share_nothing(self):
        pair = Pair(numbered_rows(2, 3), numbered_rows(2, 500))
        changed = pair.with_gap(0, 0, 77)
        self.spoil(changed.gap_rows())
        self.spoil(changed.beside_rows())
        self.spoil(pair.beside_rows())
        self.assertEqual(changed.gap_rows(), [[77, 4], [5, 6]])
        self.assertEqual(changed.beside_rows(), numbered_rows(2, 500))
        self.assertEqual(pair.gap_rows(), numbered_rows(2, 3))
        self.assertEqual(pair.beside_rows(), numbered_rows(2, 500))

    def test_one_row_handed_in_several_times(self):
        row = [1, 2]
        rows = [row, row]
        rules = Rules(rows)
        self.assertEqual(rules.with_gap(0, 1, 9).gap_rows(), [[1, 9], [1, 2]])
        told = rules.gap_rows()
        told[0][0] = 50
        self.assertEqual(told[1], [1, 2])
        pair = Pair(rows, rows)
        self.assertEqual(pair.with_gap(1, 0, 9).gap_rows(), [[1, 2], [9, 2]])
        self.assertEqual(pair.with_gap(1, 0, 9).beside_rows(), [[1, 2], [1, 2]])


if __name__ == "__main__":
    unittest.main()
