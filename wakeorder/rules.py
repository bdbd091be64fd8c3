"""Rules: the least time between two that use the strips, by their kinds."""

from wakeorder.errors import NoRules

MOST_KINDS = 6
GREATEST_GAP = 1000000


def is_gap(number):
    # A truth is an int to Python, but no whole number here.
    if not isinstance(number, int) or isinstance(number, bool):
        return False
    return 0 <= number <= GREATEST_GAP


def is_gap_row(row, kinds):
    return isinstance(row, list) and len(row) == kinds and all([is_gap(number) for number in row])


def copied_rows(rows):
    return [list(row) for row in rows]


def checked_rows(rows):
    kinds = len(rows)
    # The words never show what was handed in: a very great number can't be written as a text.
    if not 1 <= kinds <= MOST_KINDS:
        raise NoRules("there are one to six kinds")
    if not all([is_gap_row(row, kinds) for row in rows]):
        raise NoRules("each row has one whole number from 0 to 1000000 for each kind")
    return copied_rows(rows)


def rows_with_gap(rows, kind, other, gap):
    kinds = len(rows)
    # A number below 0 would else count from the end.
    if not 0 <= kind < kinds or not 0 <= other < kinds:
        raise NoRules("there is no such kind")
    changed = copied_rows(rows)
    changed[kind][other] = gap
    return changed


class Rules:
    def __init__(self, gaps):
        self.gaps = checked_rows(gaps)

    def many_kinds(self):
        return len(self.gaps)

    def many_strips(self):
        return 1

    def apart(self, one, other):
        return self.gaps[one[0]][other[0]]

    def gap_rows(self):
        return copied_rows(self.gaps)

    def with_gap(self, kind, other, gap):
        return Rules(rows_with_gap(self.gaps, kind, other, gap))


class Pair(Rules):
    def __init__(self, gaps, beside):
        Rules.__init__(self, gaps)
        self.beside = checked_rows(beside)
        if len(self.beside) != len(self.gaps):
            raise NoRules("the gaps and the gaps beside have unlike numbers of kinds")

    def many_strips(self):
        return 2

    def apart(self, one, other):
        rows = self.gaps if one[1] == other[1] else self.beside
        return rows[one[0]][other[0]]

    def beside_rows(self):
        return copied_rows(self.beside)

    def with_gap(self, kind, other, gap):
        return Pair(rows_with_gap(self.gaps, kind, other, gap), self.beside)
