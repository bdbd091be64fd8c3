"""Crowds: sets of flights that have no room in their windows, whatever the plan."""


# Of some flights' kinds each two, either one ahead, that unlike ones of these flights have.
def pairs_of(kinds):
    there = sorted(set(kinds))
    pairs = []
    for kind in there:
        for other in there:
            if kind != other or kinds.count(kind) > 1:
                pairs.append((kind, other))
    return pairs


def least_apart(rules, kinds):
    found = []
    for kind, other in pairs_of(kinds):
        # Only whether two strips are the same counts, so that the one may always be strip 0.
        for strip in range(rules.many_strips()):
            found.append(rules.apart((kind, 0), (other, strip)))
    return min(found)


def is_crowd(rules, flights, some):
    if len(some) < 2:
        return False
    first = min([flights[number][1] for number in some])
    last = max([flights[number][2] for number in some])
    kinds = [flights[number][0] for number in some]
    return least_apart(rules, kinds) * (len(some) - 1) > last - first


def flights_between(flights, first, last):
    return [number for number, flight in enumerate(flights) if first <= flight[1] and flight[2] <= last]


def crowd_of(rules, flights):
    firsts = sorted(set([flight[1] for flight in flights]))
    lasts = sorted(set([flight[2] for flight in flights]))
    for first in firsts:
        for last in lasts:
            some = flights_between(flights, first, last)
            if is_crowd(rules, flights, some):
                return some
    return None
