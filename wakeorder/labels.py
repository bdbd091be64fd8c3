"""Labels: tuples (cost, lasts), what a part of a plan has cost and leaves to those behind it.

A last time of -1 is none: nobody of this kind has used the strip.
"""

from wakeorder.costs import late_cost
from wakeorder.openings import next_open


def first_label(rules):
    row = tuple([-1 for kind in range(rules.many_kinds())])
    return (0, tuple([row for strip in range(rules.many_strips())]))


# For each kind and strip that has a last time, the least time that the gap from it leaves.
def last_gap_times(rules, lasts, spot):
    times = []
    for strip, row in enumerate(lasts):
        for kind, last in enumerate(row):
            if last != -1:
                times.append(last + rules.apart((kind, strip), spot))
    return times


def lasts_with(lasts, spot, time):
    rows = [list(row) for row in lasts]
    rows[spot[1]][spot[0]] = time
    return tuple([tuple(row) for row in rows])


def label_behind(rules, flights, closed, label, flight, strip):
    told = flights[flight]
    spot = (told[0], strip)
    time = next_open(closed, max([told[1]] + last_gap_times(rules, label[1], spot)))
    if time > told[2]:
        return None
    return (label[0] + late_cost(told, time), lasts_with(label[1], spot, time))


def is_no_worse(one, other):
    if one[0] > other[0]:
        return False
    for row, bounds in zip(one[1], other[1]):
        for last, bound in zip(row, bounds):
            if last > bound:
                return False
    return True
