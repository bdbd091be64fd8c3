"""Rows of a sheet: their words, and what the words tell, or None where they tell what cannot be."""

from wakeorder.flights import MOST_FLIGHTS, has_right_numbers
from wakeorder.openings import is_closed
from wakeorder.rules import MOST_KINDS, is_gap

LETTERS = "abcdefghijklmnopqrstuvwxyz"
FIGURES = "0123456789"
MOST_SIGNS = 8
MOST_FIGURES = 10


def words_of(row):
    return [word for word in row.split(" ") if word != ""]


def is_name(word):
    if len(word) > MOST_SIGNS or word[0] not in LETTERS:
        return False
    return all([sign in LETTERS or sign in FIGURES for sign in word])


def number_of(word):
    # Python's own reading takes signs, blanks and figures of other scripts, too.
    if len(word) > MOST_FIGURES or not all([sign in FIGURES for sign in word]):
        return None
    if word[0] == "0" and word != "0":
        return None
    return int(word)


def told_kind(kinds, words):
    if len(words) != 2 or len(kinds) >= MOST_KINDS:
        return None
    return words[1] if is_name(words[1]) and words[1] not in kinds else None


# A tuple (kind, other, gap).
def told_gap(kinds, words):
    if len(words) != 4 or words[1] not in kinds or words[2] not in kinds:
        return None
    gap = number_of(words[3])
    return (kinds.index(words[1]), kinds.index(words[2]), gap) if is_gap(gap) else None


def told_stretch(closed, words):
    if len(words) != 3:
        return None
    stretch = (number_of(words[1]), number_of(words[2]))
    return stretch if None not in stretch and is_closed(closed + [stretch]) else None


def told_flight(kinds, names, words):
    if len(words) != 7 or len(names) >= MOST_FLIGHTS or words[2] not in kinds:
        return None
    if not is_name(words[1]) or words[1] in names:
        return None
    numbers = [number_of(word) for word in words[3:]]
    if None in numbers:
        return None
    flight = (kinds.index(words[2]), numbers[0], numbers[1], numbers[2], numbers[3])
    return flight if has_right_numbers(flight) else None
