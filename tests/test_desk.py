"""Points 2, 3, 26 and 27: the desk."""

import random
import unittest

from tests.drawn import MOST_PLANS, TOO_MANY_PLANS, great_input, refused
from wakeorder.best import best_plan
from wakeorder.desk import Desk
from wakeorder.errors import NoPlan, NoRow, NoSheet, TooMany
from wakeorder.sheets import Sheet, read_sheet

TEXT = """\
kind heavy
kind light
gap heavy heavy 5
gap heavy light 9
gap light heavy 4
gap light light 3
closed 50 60
flight ab1 heavy 0 400 10 3
flight cd2 light 0 90 0 7
"""
HEAD = TEXT[:TEXT.index("closed")]


class Say(unittest.TestCase):
    def setUp(self):
        self.desk = Desk(TEXT)

    def say(self, row):
        self.assertIsNone(self.desk.say(row))
        return self.desk.sheet_text()

    def test_at_first(self):
        self.assertEqual(self.desk.sheet_text(), TEXT)
        self.assertEqual(Desk("  kind a\n# b\n").sheet_text(), "kind a\n")

    def test_flight(self):
        text = self.say("flight ef3 light 5 50 7 1")
        self.assertEqual(text, TEXT + "flight ef3 light 5 50 7 1\n")
        self.assertEqual(self.say("  flight   a heavy 0 0 0   0 "), text + "flight a heavy 0 0 0 0\n")

    def test_closed(self):
        text = self.say("closed 20 30")
        self.assertEqual(text, TEXT.replace("closed 50 60\n", "closed 50 60\nclosed 20 30\n"))
        self.assertEqual(self.say("closed   0 1000000000 ").count("closed"), 3)

    def test_gone(self):
        self.say("flight ef3 light 5 50 7 1")
        self.assertEqual(self.say("gone cd2"), TEXT.replace("flight cd2 light 0 90 0 7", "flight ef3 light 5 50 7 1"))
        self.assertEqual(self.say(" gone  ab1 "), HEAD + "closed 50 60\nflight ef3 light 5 50 7 1\n")
        self.assertEqual(self.say("gone ef3"), HEAD + "closed 50 60\n")

    def test_those_behind_move_up(self):
        self.say("gone ab1")
        self.assertEqual(self.desk.plan(), (0, [(0, 0)], [0]))
        self.assertEqual(self.desk.board(), "         0 0 cd2")

    def test_a_name_that_is_gone_is_free_again(self):
        self.say("gone ab1")
        text = self.say("flight ab1 light 1 2 3 4")
        self.assertEqual(text, HEAD + "closed 50 60\nflight cd2 light 0 90 0 7\nflight ab1 light 1 2 3 4\n")

    def test_opened(self):
        self.say("closed 20 30")
        self.assertEqual(self.say("opened"), TEXT.replace("closed 50 60\n", ""))
        self.assertEqual(self.say("  opened  "), TEXT.replace("closed 50 60\n", ""))
        self.assertEqual(self.say("closed 5 6"), TEXT.replace("closed 50 60\n", "closed 5 6\n"))

    def test_shift(self):
        order = [0, 1]
        self.assertEqual([flight for flight, strip in self.desk.plan()[1]], order)
        self.assertEqual(self.say("shift 1"), TEXT)
        self.assertEqual([flight for flight, strip in self.desk.plan()[1]], [1, 0])
        for shift in ("  shift   2 ", "shift 3"):
            self.say(shift)
            self.assertEqual([flight for flight, strip in self.desk.plan()[1]], [1, 0])
        self.say("shift 0")
        self.assertEqual([flight for flight, strip in self.desk.plan()[1]], order)

    def test_a_kind_told_ahead_stays_told(self):
        self.say("gone ab1")
        self.say("gone cd2")
        self.assertEqual(self.say("flight x light 0 9 0 1"), HEAD + "closed 50 60\nflight x light 0 9 0 1\n")

    def test_forty_flights_and_twenty_stretches(self):
        for number in range(38):
            self.say(f"flight f{number} heavy 0 900 0 1")
        refused(self, NoRow, self.desk.say, "flight more heavy 0 900 0 1")
        for number in range(19):
            self.say(f"closed {number} {number + 1}")
        refused(self, NoRow, self.desk.say, "closed 3 4")
        self.assertEqual(len(read_sheet(self.desk.sheet_text()).flights), 40)
        self.assertEqual(len(read_sheet(self.desk.sheet_text()).closed), 20)
        self.say("gone f7")
        self.say("flight more heavy 0 900 0 1")
        refused(self, NoRow, self.desk.say, "flight other heavy 0 900 0 1")
        self.say("opened")
        self.say("closed 3 4")


class Refused(unittest.TestCase):
    def assert_no_row(self, *rows):
        desk = Desk(TEXT)
        desk.say("shift 1")
        plan = desk.plan()
        self.assertNotEqual(plan, Desk(TEXT).plan())
        for row in rows:
            with self.subTest(row=row):
                refused(self, NoRow, desk.say, row)
                self.assertEqual(desk.sheet_text(), TEXT)
                self.assertEqual(desk.plan(), plan)

    def test_rows_that_say_nothing(self):
        self.assert_no_row("", " ", "     ", "#", "# flight", "#opened", "  # opened")

    def test_a_line_feed(self):
        self.assert_no_row("\n", "opened\n", "\nopened", "shift 0\n", "gone ab1\n", "gone ab1\ngone cd2",
                           "closed 3 4\n", "flight x light 0 9 0 1\n", "flight x light\n0 9 0 1", "shift\n2", " \n ")

    def test_rows_of_a_sheet_that_are_none_of_a_desk(self):
        self.assert_no_row("kind more", "gap heavy light 3", "beside heavy light 3")

    def test_a_first_word_that_is_none(self):
        self.assert_no_row("Flight x light 0 9 0 1", "open", "Opened", "close 3 4", "go ab1", "shifts 2", "a", "~!", "0",
                           "flight# x light 0 9 0 1", "OPENED", "shift2", "goneab1", "opened#")

    def test_other_signs(self):
        self.assert_no_row("opened\t", "shift\t2", "\topened", "opened\r", "shift \u0662", "shift \u00b2", "opened\x00",
                           "gone \u00e4", "closed \uff11 \uff12", "opened\u2028", "\u00a0opened", "\x0bopened")

    def test_too_few_or_too_many_words(self):
        self.assert_no_row("flight", "flight x", "flight x light 0 9 0", "flight x light 0 9 0 1 1", "closed", "closed 3",
                           "closed 3 4 5", "gone", "gone ab1 cd2", "gone ab1 ab1", "opened now", "opened opened",
                           "opened 3 4", "shift", "shift 1 2", "shift 1 1", "opened # remark")

    def test_flights_that_cannot_be(self):
        self.assert_no_row(
            "flight ab1 light 0 9 0 1", "flight cd2 heavy 0 9 0 1", "flight x more 0 9 0 1", "flight X light 0 9 0 1",
            "flight 1x light 0 9 0 1", "flight abcdefghi light 0 9 0 1", "flight x light 10 9 0 1",
            "flight x light 00 9 0 1", "flight x light 0 09 0 1", "flight x light 0 9 -1 1",
            "flight x light 0 9 0 1000000001", "flight x light 0 1000000001 0 1", "flight x light 0 9 1000000001 1",
            "flight x light 0 12345678901 0 1", "flight x light a 9 0 1", "flight x 1 0 9 0 1")

    def test_stretches_that_cannot_be(self):
        self.assert_no_row("closed 5 5", "closed 6 5", "closed -1 5", "closed 0 1000000001", "closed 00 5", "closed 0 05",
                           "closed a 5", "closed 0 12345678901", "closed 1.0 5")

    def test_names_that_nobody_has(self):
        self.assert_no_row("gone x", "gone ab", "gone ab12", "gone AB1", "gone heavy", "gone 0", "gone #", "gone ~")

    def test_gone_twice(self):
        desk = Desk(TEXT)
        desk.say("gone ab1")
        text = desk.sheet_text()
        refused(self, NoRow, desk.say, "gone ab1")
        self.assertEqual(desk.sheet_text(), text)

    def test_shifts_that_are_none(self):
        self.assert_no_row("shift 4", "shift 10", "shift -1", "shift 00", "shift 01", "shift +1", "shift a", "shift 1.0",
                           "shift 12345678901", "shift 9999999999", "shift one", "shift 0x1")

    def test_texts_that_are_no_sheets(self):
        for text, row in (("", 0), ("\n\n", 0), ("kind a\nopened\n", 2), ("kind a\nshift 1\n", 2), ("kind A", 1),
                          (TEXT + "gone ab1\n", 10), (TEXT + "flight ab1 heavy 0 9 0 1", 10)):
            with self.subTest(text=text):
                self.assertEqual(refused(self, NoSheet, Desk, text).row, row)


class TwoDesks(unittest.TestCase):
    def test_apart(self):
        one, other = Desk(TEXT), Desk(TEXT)
        plan = other.plan()
        for row in ("shift 1", "gone ab1", "closed 0 5", "flight x light 0 90 0 1"):
            one.say(row)
            self.assertEqual(other.sheet_text(), TEXT)
            self.assertEqual(other.plan(), plan)
        kept = one.sheet_text()
        other.say("opened")
        self.assertEqual(one.sheet_text(), kept)

    def test_what_is_told_is_the_askers_own(self):
        desk = Desk(TEXT)
        cost, plan, times = desk.plan()
        kept = (cost, list(plan), list(times))
        plan.clear()
        times.append(99)
        self.assertEqual(desk.plan(), kept)
        self.assertEqual(desk.sheet_text(), TEXT)


class PlanAndBoard(unittest.TestCase):
    def test_no_flights(self):
        desk = Desk("kind a\nclosed 0 9\n")
        self.assertEqual(desk.plan(), (0, [], []))
        self.assertEqual(desk.board(), "")
        desk.say("shift 3")
        self.assertEqual(desk.board(), "")

    def test_later_than_due_and_not(self):
        desk = Desk(TEXT)
        self.assertEqual(desk.plan(), (63, [(0, 0), (1, 0)], [0, 9]))
        self.assertEqual(desk.board(), "         0 0 ab1\n         9 0 cd2 +9")
        desk.say("shift 1")
        self.assertEqual(desk.plan(), (0, [(1, 0), (0, 0)], [0, 4]))
        self.assertEqual(desk.board(), "         0 0 cd2\n         4 0 ab1")

    def test_just_at_due(self):
        self.assertEqual(Desk("kind a\nflight x a 5 9 5 1\n").board(), "         5 0 x")
        self.assertEqual(Desk("kind a\nflight x a 5 9 4 1\n").board(), "         5 0 x +1")
        self.assertEqual(Desk("kind a\nflight x a 5 9 6 1\n").board(), "         5 0 x")

    def test_late_at_no_price(self):
        self.assertEqual(Desk("kind a\nflight x a 5 9 0 0\n").board(), "         5 0 x +5")

    def test_two_strips(self):
        desk = Desk("kind a\ngap a a 10\nbeside a a 2\nflight x a 0 90 0 1\nflight y1234567 a 0 90 0 1\n")
        cost, plan, times = desk.plan()
        self.assertEqual((cost, times), (2, [0, 2]))
        strips = [strip for flight, strip in plan]
        self.assertEqual(sorted(strips), [0, 1])
        self.assertEqual(desk.board(), f"         0 {strips[0]} x\n         2 {strips[1]} y1234567 +2")

    def test_the_greatest_times(self):
        board = Desk("kind a\nflight x a 1000000000 1000000000 0 1\n").board()
        self.assertEqual(board, "1000000000 0 x +1000000000")
        self.assertEqual(Desk("kind a\nflight x a 999999999 999999999 999999999 1\n").board(), " 999999999 0 x")

    def test_closed_stretches(self):
        desk = Desk(TEXT)
        desk.say("closed 0 3")
        self.assertEqual(desk.board(), "         3 0 ab1\n        12 0 cd2 +12")
        desk.say("opened")
        self.assertEqual(desk.board(), "         0 0 ab1\n         9 0 cd2 +9")

    def test_no_plan(self):
        desk = Desk("kind a\ngap a a 5\nflight x a 0 90 0 1\nflight y a 7 9 0 1\nflight z a 7 10 0 1\n")
        for told in (desk.plan, desk.board):
            self.assertEqual(refused(self, NoPlan, told).crowd, [1, 2])
        desk.say("gone z")
        self.assertEqual(desk.board(), "         0 0 x\n         7 0 y +7")
        desk.say("closed 5 10")
        for told in (desk.plan, desk.board):
            self.assertEqual(refused(self, NoPlan, told).crowd, [])

    def test_too_many(self):
        for strips, many, shift, plans in TOO_MANY_PLANS:
            rules, flights, closed = great_input(strips, many, shift)
            desk = desk_of(rules, flights, closed)
            if shift:
                desk.say(f"shift {shift}")
            with self.subTest(strips=strips, many=many, shift=shift):
                refused(self, TooMany, desk.plan)
                refused(self, TooMany, desk.board)
                desk.say("opened")
                self.assertNotIn("closed", desk.sheet_text())

    def test_too_many_goes_ahead_of_no_plan(self):
        desk = Desk("kind a\ngap a a 5\n" + "".join(f"flight f{number} a 0 0 0 1\n" for number in range(40)))
        self.assertEqual(refused(self, NoPlan, desk.plan).crowd, list(range(40)))
        desk.say("shift 1")
        refused(self, TooMany, desk.plan)
        refused(self, TooMany, desk.board)

    def test_at_the_bounds(self):
        for strips, many, shift, plans in MOST_PLANS:
            rules, flights, closed = great_input(strips, many, shift)
            desk = desk_of(rules, flights, closed)
            desk.say(f"shift {shift}")
            with self.subTest(strips=strips, many=many, shift=shift):
                cost, plan, times = best_plan(rules, flights, closed, shift)
                self.assertEqual(desk.plan(), (cost, plan, times))
                self.assertEqual(desk.board(), shown_board(flights, plan, times))
                self.assertEqual(len(desk.board().split("\n")), many)

    def test_a_desk_told_row_by_row_is_as_one_of_the_whole_text(self):
        chance = random.Random(27)
        for number in range(60):
            strips = chance.randint(1, 2)
            rules, flights, closed = great_input(strips, chance.randint(0, 4), number)
            shift = chance.randint(0, 3)
            whole = desk_of(rules, flights, closed)
            bare = desk_of(rules, [], [])
            rows = [row for row in whole.sheet_text().split("\n") if row.split(" ")[0] in ("flight", "closed")]
            for row in rows:
                bare.say(row)
            for desk in (whole, bare):
                desk.say(f"shift {shift}")
            with self.subTest(number=number):
                self.assertEqual(bare.sheet_text(), whole.sheet_text())
                self.assertEqual(bare.plan(), best_plan(rules, flights, closed, shift))
                self.assertEqual(bare.board(), whole.board())
                self.assertEqual(bare.board(), bare.board())


def desk_of(rules, flights, closed):
    kinds = [f"k{number}" for number in range(rules.many_kinds())]
    names = [f"f{number}" for number in range(len(flights))]
    return Desk(Sheet(kinds, rules, names, flights, closed).shown())


def shown_board(flights, plan, times):
    rows = []
    for (flight, strip), time in zip(plan, times):
        late = time - flights[flight][3]
        rows.append(f"{time:>10} {strip} f{flight}" + (f" +{late}" if late > 0 else ""))
    return "\n".join(rows)


if __name__ == "__main__":
    unittest.main()
