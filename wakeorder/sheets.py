"""Sheets: kinds, rules, flights and closed stretches, read from a text and shown as one."""

from wakeorder.errors import NoSheet
from wakeorder.rows import told_flight, told_gap, told_kind, told_stretch, words_of
from wakeorder.rules import Pair, Rules


def shown_gaps(word, kinds, rows, least):
    shown = []
    for kind, row in zip(kinds, rows):
        for other, gap in zip(kinds, row):
            if gap >= least:
                shown.append(f"{word} {kind} {other} {gap}")
    return shown


def shown_flight(kinds, name, flight):
    words = ["flight", name, kinds[flight[0]]] + [str(number) for number in flight[1:]]
    return " ".join(words)


def text_of(kinds, rules, names, flights, closed):
    rows = [f"kind {name}" for name in kinds]
    rows.extend(shown_gaps("gap", kinds, rules.gap_rows(), 1))
    if isinstance(rules, Pair):
        # Were gaps beside of 0 left out, there might be no such row, and the rules be for one strip.
        rows.extend(shown_gaps("beside", kinds, rules.beside_rows(), 0))
    rows.extend([f"closed {start} {stop}" for start, stop in closed])
    rows.extend([shown_flight(kinds, name, flight) for name, flight in zip(names, flights)])
    return "".join([row + "\n" for row in rows])


class Sheet:
    def __init__(self, kinds, rules, names, flights, closed):
        self.kinds = list(kinds)
        self.rules = rules
        self.names = list(names)
        self.flights = list(flights)
        self.closed = list(closed)
        # The lists above are the asker's own: what is done to them changes nothing of what is shown.
        self.text = text_of(kinds, rules, names, flights, closed)

    def shown(self):
        return self.text


# What the rows of a text have told so far.
class Draft:
    def __init__(self):
        self.kinds = []
        self.gaps = {}
        self.beside = {}
        self.names = []
        self.flights = []
        self.closed = []


# Whether there was something to take, as with all that take a row.
def take_told(kept, told):
    if told is None:
        return False
    kept.append(told)
    return True


def take_gap(kinds, gaps, words):
    told = told_gap(kinds, words)
    if told is None:
        return False
    gaps[(told[0], told[1])] = told[2]
    return True


def take_flight(draft, words):
    if not take_told(draft.flights, told_flight(draft.kinds, draft.names, words)):
        return False
    draft.names.append(words[1])
    return True


def take_row(draft, words):
    if words == [] or words[0].startswith("#"):
        return True
    if words[0] == "kind":
        return take_told(draft.kinds, told_kind(draft.kinds, words))
    if words[0] == "gap":
        return take_gap(draft.kinds, draft.gaps, words)
    if words[0] == "beside":
        return take_gap(draft.kinds, draft.beside, words)
    if words[0] == "closed":
        return take_told(draft.closed, told_stretch(draft.closed, words))
    return words[0] == "flight" and take_flight(draft, words)


def gap_row(gaps, kind, many):
    return [gaps.get((kind, other), 0) for other in range(many)]


def gap_table(gaps, many):
    return [gap_row(gaps, kind, many) for kind in range(many)]


def drafted_rules(draft):
    many = len(draft.kinds)
    gaps = gap_table(draft.gaps, many)
    if draft.beside == {}:
        return Rules(gaps)
    return Pair(gaps, gap_table(draft.beside, many))


def read_sheet(text):
    draft = Draft()
    for number, row in enumerate(text.split("\n"), start=1):
        if not take_row(draft, words_of(row)):
            raise NoSheet(number)
    if draft.kinds == []:
        raise NoSheet(0)
    return Sheet(draft.kinds, drafted_rules(draft), draft.names, draft.flights, draft.closed)
