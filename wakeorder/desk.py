"""The desk: a sheet and a shift that change row by row, and the best plan of these."""

from wakeorder.best import best_plan
from wakeorder.errors import NoRow
from wakeorder.rows import number_of, told_flight, told_stretch, words_of
from wakeorder.sheets import Sheet, read_sheet

GREATEST_SHIFT = 3
TIME_SIGNS = 10


def with_flights(sheet, names, flights):
    return Sheet(sheet.kinds, sheet.rules, names, flights, sheet.closed)


def with_closed(sheet, closed):
    return Sheet(sheet.kinds, sheet.rules, sheet.names, sheet.flights, closed)


def sheet_with_flight(sheet, words):
    flight = told_flight(sheet.kinds, sheet.names, words)
    if flight is None:
        raise NoRow("there can be no such flight")
    return with_flights(sheet, sheet.names + [words[1]], sheet.flights + [flight])


def sheet_with_stretch(sheet, words):
    stretch = told_stretch(sheet.closed, words)
    if stretch is None:
        raise NoRow("there can be no such closed stretch")
    return with_closed(sheet, sheet.closed + [stretch])


def sheet_without_flight(sheet, words):
    if len(words) != 2 or words[1] not in sheet.names:
        raise NoRow("nobody has this name")
    place = sheet.names.index(words[1])
    names = sheet.names[:place] + sheet.names[place + 1:]
    return with_flights(sheet, names, sheet.flights[:place] + sheet.flights[place + 1:])


def changed_sheet(sheet, words):
    word = words[0] if words else ""
    if word == "flight":
        return sheet_with_flight(sheet, words)
    if word == "closed":
        return sheet_with_stretch(sheet, words)
    if word == "gone":
        return sheet_without_flight(sheet, words)
    if words == ["opened"]:
        return with_closed(sheet, [])
    raise NoRow("a desk takes no such row")


def told_shift(words):
    shift = number_of(words[1]) if len(words) == 2 else None
    if shift is None or shift > GREATEST_SHIFT:
        raise NoRow("a shift is a number from 0 to 3")
    return shift


def board_row(sheet, entry, time):
    number = entry[0]
    late = time - sheet.flights[number][3]
    row = " ".join([str(time).rjust(TIME_SIGNS), str(entry[1]), sheet.names[number]])
    return f"{row} +{late}" if late > 0 else row


class Desk:
    def __init__(self, text):
        self.sheet = read_sheet(text)
        self.shift = 0

    def say(self, row):
        if "\n" in row:
            raise NoRow("a row has no line feed")
        words = words_of(row)
        if words[:1] == ["shift"]:
            self.shift = told_shift(words)
        else:
            self.sheet = changed_sheet(self.sheet, words)

    def sheet_text(self):
        return self.sheet.shown()

    def plan(self):
        return best_plan(self.sheet.rules, self.sheet.flights, self.sheet.closed, self.shift)

    def board(self):
        best = self.plan()
        return "\n".join([board_row(self.sheet, entry, time) for entry, time in zip(best[1], best[2])])
