"""Points 2, 24 and 25: sheets, read and shown."""

import random
import unittest

from tests.drawn import asked, refused, shown_rules
from wakeorder.errors import NoSheet
from wakeorder.rules import Pair, Rules
from wakeorder.sheets import Sheet, read_sheet

FULL = """\
# heavy ones and light ones
kind heavy
kind light

gap heavy heavy 90
gap heavy light 120
gap light light 60
beside heavy light 30
closed 500 600
closed 100 200
flight ab1 heavy 0 400 10 3
flight cd2 light 5 90 20 0
"""
SHOWN = """\
kind heavy
kind light
gap heavy heavy 90
gap heavy light 120
gap light light 60
beside heavy heavy 0
beside heavy light 30
beside light heavy 0
beside light light 0
closed 500 600
closed 100 200
flight ab1 heavy 0 400 10 3
flight cd2 light 5 90 20 0
"""
HEAD = "kind heavy\nkind light\n"
FLIGHT = "flight ab1 heavy 0 400 10 3\n"


def values(sheet):
    return sheet.kinds, shown_rules(sheet.rules), sheet.names, sheet.flights, sheet.closed


class Rows(unittest.TestCase):
    def tell(self, text):
        sheet = read_sheet(text)
        self.assertIsInstance(sheet, Sheet)
        for field in (sheet.kinds, sheet.names, sheet.flights, sheet.closed):
            self.assertIsInstance(field, list)
        self.assertEqual(values(read_sheet(text)), values(sheet))
        return sheet

    def test_each_kind_of_row(self):
        self.assertEqual(values(self.tell(FULL)), (
            ["heavy", "light"], [[[90, 120], [0, 60]], [[0, 30], [0, 0]]], ["ab1", "cd2"],
            [(0, 0, 400, 10, 3), (1, 5, 90, 20, 0)], [(500, 600), (100, 200)],
        ))

    def test_kinds_alone(self):
        sheet = self.tell("kind heavy")
        self.assertEqual(values(sheet), (["heavy"], [[[0]]], [], [], []))
        self.assertIs(sheet.rules.__class__, Rules)
        self.assertEqual(values(self.tell("kind b\nkind a\n"))[:2], (["b", "a"], [[[0, 0], [0, 0]]]))

    def test_a_row_ends_with_or_without_a_line_feed(self):
        self.assertEqual(values(self.tell(FULL)), values(self.tell(FULL[:-1])))
        self.assertEqual(values(self.tell(FULL)), values(self.tell("\n\n" + FULL + "\n\n")))

    def test_blanks(self):
        rows = ["   " + row.replace(" ", "    ") + "  " for row in FULL.split("\n")]
        self.assertEqual(values(self.tell("\n".join(rows))), values(self.tell(FULL)))

    def test_rows_that_say_nothing(self):
        rows = FULL.split("\n")
        for nothing in ("", " ", "     ", "#", "# kind", "#kind heavy", "   #kind x y z", "##", "# ~!% \"'\\"):
            text = "\n".join([nothing] + [row + "\n" + nothing for row in rows])
            with self.subTest(nothing=nothing):
                self.assertEqual(values(self.tell(text)), values(self.tell(FULL)))

    def test_the_last_gap_row_counts(self):
        text = HEAD + "gap heavy light 5\ngap light heavy 6\ngap heavy light 7\n"
        self.assertEqual(shown_rules(self.tell(text).rules), [[[0, 7], [6, 0]]])
        self.assertEqual(shown_rules(self.tell(text + "gap heavy light 0\n").rules), [[[0, 0], [6, 0]]])

    def test_the_last_beside_row_counts(self):
        text = HEAD + "beside heavy light 5\nbeside light heavy 6\nbeside heavy light 7\ngap heavy light 9\n"
        self.assertEqual(shown_rules(self.tell(text).rules), [[[0, 9], [0, 0]], [[0, 7], [6, 0]]])

    def test_a_beside_row_makes_two_strips(self):
        for row in ("beside heavy light 0\n", "beside light light 3\n"):
            sheet = self.tell(HEAD + row)
            self.assertIs(sheet.rules.__class__, Pair)
            self.assertEqual(sheet.rules.many_strips(), 2)
        self.assertIs(self.tell(HEAD + "gap heavy light 3\n").rules.__class__, Rules)

    def test_kinds_told_between_and_behind(self):
        text = "kind a\ngap a a 3\nflight x a 0 9 0 1\nkind b\ngap a b 4\nflight y b 0 9 0 1\nkind c\n"
        self.assertEqual(values(self.tell(text)), (
            ["a", "b", "c"], [[[3, 4, 0], [0, 0, 0], [0, 0, 0]]], ["x", "y"], [(0, 0, 9, 0, 1), (1, 0, 9, 0, 1)], [],
        ))

    def test_a_kind_and_a_flight_may_have_the_same_name(self):
        sheet = self.tell("kind kind\nflight kind kind 0 9 0 1\nclosed 3 4\ngap kind kind 2\n")
        self.assertEqual((sheet.kinds, sheet.names), (["kind"], ["kind"]))
        self.assertEqual(self.tell("kind gap\nkind flight\ngap gap flight 3\n").kinds, ["gap", "flight"])

    def test_names_at_their_bounds(self):
        for name in ("a", "z", "a0", "z9", "abcdefgh", "a1234567", "azazazaz"):
            self.assertEqual(self.tell(f"kind {name}\nflight {name} {name} 0 9 0 1").names, [name])

    def test_numbers_at_their_bounds(self):
        sheet = self.tell(HEAD + "gap heavy light 1000000\nbeside light heavy 1000000\nclosed 0 1000000000\n"
                          "closed 999999999 1000000000\nclosed 0 1\n"
                          "flight a heavy 1000000000 1000000000 1000000000 1000000000\nflight b light 0 0 0 0\n")
        self.assertEqual(values(sheet)[1:], (
            [[[0, 10 ** 6], [0, 0]], [[0, 0], [10 ** 6, 0]]], ["a", "b"],
            [(0, 10 ** 9, 10 ** 9, 10 ** 9, 10 ** 9), (1, 0, 0, 0, 0)], [(0, 10 ** 9), (10 ** 9 - 1, 10 ** 9), (0, 1)],
        ))

    def test_as_many_as_there_may_be(self):
        sheet = self.tell(most_rows(6, 20, 40))
        self.assertEqual((len(sheet.kinds), len(sheet.closed), len(sheet.flights), len(sheet.names)), (6, 20, 40, 40))
        self.assertEqual(sheet.rules.many_kinds(), 6)
        self.assertEqual(sheet.names[-1], "f39")


def most_rows(kinds, stretches, flights):
    rows = [f"kind k{number}" for number in range(kinds)]
    rows += [f"closed {number} {number + 1}" for number in range(stretches)]
    rows += [f"flight f{number} k0 0 9 0 1" for number in range(flights)]
    return "\n".join(rows)


class Refused(unittest.TestCase):
    def assert_bad(self, row, head=HEAD + FLIGHT):
        """A row that is bad behind others, whatever else comes behind it."""
        number = head.count("\n") + 1
        for behind in ("", "\n", "\n" + row, "\nkind more\n", "\nnothing such\nnor this"):
            with self.subTest(row=row, behind=behind):
                self.assertEqual(refused(self, NoSheet, read_sheet, head + row + behind).row, number)
        with self.subTest(row=row):
            self.assertEqual(refused(self, NoSheet, read_sheet, "# a remark\n\n" + head + row).row, number + 2)
            self.assertEqual(refused(self, NoSheet, read_sheet, head + "\n  \n  " + row + "  ").row, number + 2)

    def test_no_kind(self):
        for text in ("", "\n", "\n\n\n", "  ", "# kind heavy", "closed 3 4\n", "closed 3 4\n\n# nothing\nclosed 0 1"):
            with self.subTest(text=text):
                self.assertEqual(refused(self, NoSheet, read_sheet, text).row, 0)

    def test_a_bad_row_goes_ahead_of_no_kind(self):
        self.assertEqual(refused(self, NoSheet, read_sheet, "\nclosed 4 3").row, 2)

    def test_a_first_word_that_is_none(self):
        for row in ("kinds a", "Kind a", "KIND a", "k", "a", "gap2 heavy light 3", "open 3 4", "opened", "gone ab1",
                    "shift 1", "kind# a", "!", "~", "0", "kind,a", "flights x heavy 0 9 0 1"):
            self.assert_bad(row)

    def test_too_few_or_too_many_words(self):
        for row in ("kind", "kind a b", "kind heavy light", "gap", "gap heavy", "gap heavy light", "gap heavy light 3 4",
                    "gap heavy 3", "beside", "beside heavy", "beside heavy light", "beside heavy light 3 4",
                    "closed", "closed 3", "closed 3 4 5", "flight", "flight x", "flight x heavy", "flight x heavy 0 9 0",
                    "flight x heavy 0 9 0 1 1", "flight heavy 0 9 0 1", "kind a # remark", "closed 3 4 #"):
            self.assert_bad(row)

    def test_names_that_are_none(self):
        for name in ("A", "aB", "1a", "0", "a_b", "a-b", "abcdefghi", "a12345678", "a" * 100, "a.", "#a", "a#", "~",
                     "abcdefgH", "a,", "a\tb"):
            self.assert_bad(f"kind {name}")
            self.assert_bad(f"flight {name} heavy 0 9 0 1")

    def test_a_name_twice(self):
        self.assert_bad("kind heavy")
        self.assert_bad("kind light")
        self.assert_bad("flight ab1 heavy 0 9 0 1")
        self.assert_bad("flight ab1 light 5 9 7 1")

    def test_a_kind_not_told_ahead(self):
        for row in ("gap heavy more 3", "gap more heavy 3", "gap more more 3", "beside heavy more 3",
                    "beside more heavy 3", "flight x more 0 9 0 1", "gap Heavy light 3", "flight x ab1 0 9 0 1",
                    "gap heavy ab1 3", "gap 0 1 3", "flight x 0 0 9 0 1"):
            self.assert_bad(row)

    def test_too_many_of_them(self):
        full = most_rows(6, 20, 40) + "\n"
        self.assertEqual(len(read_sheet(full).flights), 40)
        self.assert_bad("kind more", full)
        self.assert_bad("closed 3 4", full)
        self.assert_bad("flight more k0 0 9 0 1", full)
        self.assert_bad("kind more", "".join(f"kind k{number}\n" for number in range(6)))

    def test_words_that_are_no_numbers(self):
        for word in ("00", "01", "007", "00000000000", "12345678901", "10000000000", "-1", "+1", "-0", "1.0", "1e3",
                     "0x1", "1_0", "a", "1a", "1x", "a1", "~", "#", "one", "9" * 100, "1,000", "9\t", "\t9",
                     "\u0663", "\u00b2", "\uff11"):
            self.assert_bad(f"gap heavy light {word}")
            self.assert_bad(f"beside heavy light {word}")
            self.assert_bad(f"closed {word} 1000000000")
            self.assert_bad(f"closed 0 {word}")
            self.assert_bad(f"flight x heavy {word} 1000000000 0 1")
            self.assert_bad(f"flight x heavy 0 {word} 0 1")
            self.assert_bad(f"flight x heavy 0 9 {word} 1")
            self.assert_bad(f"flight x heavy 0 9 0 {word}")

    def test_numbers_out_of_their_ranges(self):
        for row in ("gap heavy light 1000001", "gap heavy light 9999999999", "beside heavy light 1000001",
                    "closed 5 5", "closed 6 5", "closed 0 0", "closed 0 1000000001", "closed 1000000000 1000000000",
                    "closed 1000000000 1000000001", "closed 9999999999 9999999999",
                    "flight x heavy 10 9 0 1", "flight x heavy 1000000001 1000000001 0 1",
                    "flight x heavy 0 1000000001 0 1", "flight x heavy 0 9 1000000001 1",
                    "flight x heavy 0 9 0 1000000001", "flight x heavy 9999999999 9999999999 0 1"):
            self.assert_bad(row)

    def test_the_first_bad_row_counts(self):
        self.assertEqual(refused(self, NoSheet, read_sheet, "kind a\nkind A\nkind B\n").row, 2)
        self.assertEqual(refused(self, NoSheet, read_sheet, "gap a a 3\nkind a\n").row, 1)
        self.assertEqual(refused(self, NoSheet, read_sheet, "kind a\n\n#\n  \nflight x b 0 9 0 1\nkind b").row, 5)


class Shown(unittest.TestCase):
    def test_rows_in_their_order(self):
        self.assertEqual(read_sheet(FULL).shown(), SHOWN)

    def test_the_order_of_the_text_does_not_matter(self):
        text = "kind heavy\nflight ab1 heavy 0 400 10 3\nclosed 500 600\nkind light\ngap light light 60\n" \
            "flight cd2 light 5 90 20 0\nbeside heavy light 30\ngap heavy light 120\nclosed 100 200\n" \
            "gap heavy heavy 90\n"
        self.assertEqual(read_sheet(text).shown(), SHOWN)

    def test_one_strip(self):
        self.assertEqual(read_sheet("kind a\nkind b\ngap b a 0\ngap a b 1\ngap a a 5\n").shown(),
                         "kind a\nkind b\ngap a a 5\ngap a b 1\n")

    def test_two_strips_with_nothing_beside(self):
        text = "kind a\nbeside a a 0\n"
        self.assertEqual(read_sheet(text).shown(), text)

    def test_a_kind_alone(self):
        self.assertEqual(read_sheet("  kind   a  ").shown(), "kind a\n")

    def test_of_a_sheet_made_of_lists(self):
        sheet = Sheet(["a", "b"], Rules([[1, 0], [0, 2]]), ["x"], [(1, 2, 3, 4, 5)], [(7, 9), (0, 3)])
        self.assertEqual(sheet.shown(), "kind a\nkind b\ngap a a 1\ngap b b 2\nclosed 7 9\nclosed 0 3\n"
                         "flight x b 2 3 4 5\n")
        self.assertEqual(values(read_sheet(sheet.shown())), values(sheet))

    def test_read_as_the_same_again(self):
        chance = random.Random(25)
        for number in range(300):
            sheet = drawn_sheet(chance)
            again = read_sheet(sheet.shown())
            with self.subTest(shown=sheet.shown()):
                self.assertEqual(values(again), values(sheet))
                self.assertIs(again.rules.__class__, sheet.rules.__class__)
                self.assertEqual(again.shown(), sheet.shown())

    def test_as_many_as_there_may_be(self):
        text = most_rows(6, 20, 40) + "\n"
        self.assertEqual(read_sheet(text).shown(), text)


def drawn_sheet(chance):
    many = chance.randint(1, 6)
    letters = "abcdefghijklmnopqrstuvwxyz"
    kinds = chance.sample([letters[number] + "9" * chance.randint(0, 7) for number in range(26)], many)
    rows = [[[chance.choice((0, 0, 1, 10 ** 6)) for other in kinds] for kind in kinds] for strip in range(2)]
    rules = Rules(rows[0]) if chance.randint(1, 2) == 1 else Pair(*rows)
    flights = []
    for number in range(chance.randint(0, 5)):
        first, last = sorted((chance.randint(0, 10 ** 9), chance.randint(0, 10 ** 9)))
        flights.append((chance.randrange(many), first, last, chance.randint(0, 10 ** 9), chance.choice((0, 10 ** 9))))
    names = chance.sample([letter + "x0" for letter in letters], len(flights))
    closed = [(start, start + chance.randint(1, 9)) for start in chance.sample(range(900), chance.randint(0, 5))]
    return Sheet(kinds, rules, names, flights, closed)


class OwnLists(unittest.TestCase):
    LISTS = (["a", "b"], [(0, 1, 2, 3, 4)], ["x"], [(7, 9)])

    def made(self):
        kinds, flights, names, closed = [list(some) for some in self.LISTS]
        return (kinds, flights, names, closed), Sheet(kinds, Rules([[1, 2], [3, 4]]), names, flights, closed)

    def told(self, sheet):
        return sheet.kinds, sheet.flights, sheet.names, sheet.closed

    def test_what_is_handed_in_is_copied(self):
        lists, sheet = self.made()
        shown = sheet.shown()
        self.assertEqual(lists, tuple(list(some) for some in self.LISTS))
        for some in lists:
            some.clear()
        self.assertEqual(self.told(sheet), self.LISTS)
        self.assertEqual(sheet.shown(), shown)
        self.assertEqual(shown_rules(sheet.rules), [[[1, 2], [3, 4]]])

    def test_what_is_done_to_the_fields_changes_nothing_else(self):
        lists, sheet = self.made()
        shown = sheet.shown()
        for some in self.told(sheet):
            some.clear()
        self.assertEqual(lists, tuple(list(some) for some in self.LISTS))
        self.assertEqual(sheet.shown(), shown)

    def test_two_sheets_of_the_same_lists(self):
        lists, sheet = self.made()
        other = Sheet(lists[0], sheet.rules, lists[2], lists[1], lists[3])
        for some in self.told(other):
            some.append("spoiled")
        self.assertEqual(self.told(sheet), self.LISTS)
        self.assertEqual(other.shown(), sheet.shown())

    def test_two_readings_of_a_text(self):
        one, other = read_sheet(FULL), read_sheet(FULL)
        for some in self.told(one):
            some.append("spoiled")
        one.rules.gap_rows()[0].append("spoiled")
        self.assertEqual(values(other), values(read_sheet(FULL)))
        self.assertEqual(other.shown(), SHOWN)
        self.assertEqual(one.shown(), SHOWN)

    def test_reading_changes_nothing(self):
        self.assertEqual(asked(self, lambda text: values(read_sheet(text)), FULL), values(read_sheet(FULL)))


if __name__ == "__main__":
    unittest.main()
