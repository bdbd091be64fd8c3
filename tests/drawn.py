"""Small inputs drawn from a seed, and answers found by trying everything."""

import copy
import itertools
import random

from wakeorder.rules import Pair, Rules


class Case:
    """Rules, flights, closed stretches and a plan of these."""

    def __init__(self, rules, flights, closed, plan):
        self.rules = rules
        self.flights = flights
        self.closed = closed
        self.plan = plan
        self.rows = shown_rules(rules)

    def all(self):
        return self.rules, self.flights, self.closed, self.plan

    def seen(self):
        """All of it as plain values, for telling cases apart in what a test prints."""
        return self.rows, self.flights, self.closed, self.plan

    def apart(self, one, other):
        """Point 5, by the rows that the rules tell."""
        return self.rows[0 if one[1] == other[1] else 1][one[0]][other[0]]


def shown_rules(rules):
    rows = [rules.gap_rows()]
    if rules.many_strips() == 2:
        rows.append(rules.beside_rows())
    return rows


def drawn_rows(chance, kinds, greatest):
    return [[chance.randint(0, greatest) for other in range(kinds)] for kind in range(kinds)]


def drawn_rules(chance, greatest=4, strips=None):
    kinds = chance.randint(1, 3)
    if (strips or chance.randint(1, 2)) == 1:
        return Rules(drawn_rows(chance, kinds, greatest))
    return Pair(drawn_rows(chance, kinds, greatest), drawn_rows(chance, kinds, greatest // 2))


def drawn_flight(chance, kinds, end):
    first = chance.randint(0, end - 1)
    return chance.randrange(kinds), first, chance.randint(first, end), chance.randint(0, end), chance.randint(0, 3)


def drawn_flights(chance, rules, many, end):
    return [drawn_flight(chance, rules.many_kinds(), end) for number in range(many)]


def drawn_closed(chance, most, end):
    closed = []
    for number in range(chance.randint(0, most)):
        start = chance.randint(0, end - 1)
        closed.append((start, min(end, start + chance.randint(1, 3))))
    return closed


def drawn_plan(chance, rules, many):
    return [(flight, chance.randrange(rules.many_strips())) for flight in chance.sample(range(many), many)]


def drawn_cases(seed, many, most_flights=4, end=9):
    """So many cases, the same ones for the same seed."""
    chance = random.Random(seed)
    cases = []
    for number in range(many):
        rules = drawn_rules(chance)
        flights = drawn_flights(chance, rules, chance.randint(0, most_flights), end)
        closed = drawn_closed(chance, 3, end)
        cases.append(Case(rules, flights, closed, drawn_plan(chance, rules, len(flights))))
    return cases


def is_shut(closed, time):
    return any([time in range(start, stop) for start, stop in closed])


def fits(case, times):
    """By point 9, of times of the first places: whether the last of these fits the others."""
    place = len(times) - 1
    flight, strip = case.plan[place]
    kind, first, last = case.flights[flight][:3]
    if not first <= times[-1] <= last:
        return False
    for ahead in range(place):
        other, beside = case.plan[ahead]
        if times[-1] < times[ahead] + case.apart((case.flights[other][0], beside), (kind, strip)):
            return False
    return not is_shut(case.closed, times[-1])


def all_times(case):
    """All lists of times that keep a plan, every time from 0 to the last one of all tried at each place."""
    end = max([flight[2] for flight in case.flights], default=0)
    found = [[]]
    for place in range(len(case.plan)):
        found = [times + [time] for times in found for time in range(end + 1) if fits(case, times + [time])]
    return found


def all_cost(case, times):
    cost = 0
    for (flight, strip), time in zip(case.plan, times):
        due, price = case.flights[flight][3:]
        if time > due:
            cost += price * (time - due)
    return cost


def orders_by_trying(many, shift):
    return [list(order) for order in itertools.permutations(range(many))
            if all(abs(flight - place) <= shift for place, flight in enumerate(order))]


def plans_by_trying(rules, many, shift):
    """All plans within the shift."""
    strips = list(itertools.product(range(rules.many_strips()), repeat=many))
    return [list(zip(order, chosen)) for order in orders_by_trying(many, shift) for chosen in strips]


def least_time(case, times):
    """The earliest time of the next place behind times of the first ones, or None."""
    first, last = case.flights[case.plan[len(times)][0]][1:3]
    return next((time for time in range(first, last + 1) if fits(case, times + [time])), None)


def label_of(case, times):
    """By point 16: what the first places of a plan come to, at their earliest times."""
    lasts = [[-1] * case.rules.many_kinds() for strip in range(case.rules.many_strips())]
    for (flight, strip), time in zip(case.plan, times):
        lasts[strip][case.flights[flight][0]] = time
    return all_cost(case, times), tuple(tuple(row) for row in lasts)


def labels_by_trying(rules, flights, closed, plans):
    """For each set of flights with which one of the plans begins, all labels that such plans come to."""
    times = {(): []}
    labels = {}
    for plan in plans:
        case = Case(rules, flights, closed, plan)
        for place in range(len(plan) + 1):
            ahead, here = tuple(plan[:place - 1]), tuple(plan[:place])
            if here not in times:
                time = None if times[ahead] is None else least_time(case, times[ahead])
                times[here] = None if time is None else times[ahead] + [time]
            some = labels.setdefault(tuple(sorted(flight for flight, strip in here)), set())
            if times[here] is not None:
                some.add(label_of(case, times[here]))
    return labels


def flat(label):
    return [label[0]] + [last for row in label[1] for last in row]


def best_by_trying(labels):
    """Those to which no unlike one is no worse, sorted."""
    found = []
    for label in labels:
        others = [other for other in labels if other != label]
        if not any(all(a <= b for a, b in zip(flat(other), flat(label))) for other in others):
            found.append(label)
    return sorted(found)


# Strips, flights and shift: the most plans that are told, and how many these are.
MOST_PLANS = (
    (1, 40, 0, 1), (2, 12, 0, 4096), (1, 18, 1, 4181), (2, 7, 1, 2688), (1, 10, 2, 2177), (2, 6, 2, 4672),
    (1, 8, 3, 2069), (2, 5, 3, 2496),
)
# One flight more: there are more than 5,000.
TOO_MANY_PLANS = (
    (2, 13, 0, 8192), (1, 19, 1, 6765), (2, 8, 1, 8704), (1, 11, 2, 5081), (2, 7, 2, 22016), (1, 9, 3, 6404),
    (2, 6, 3, 14720), (2, 40, 0, 2 ** 40), (1, 40, 1, 165580141), (2, 40, 1, 165580141 * 2 ** 40),
)


def drawn_inputs(seed, many, most=4):
    """So many inputs: rules, flights, closed stretches and a shift."""
    chance = random.Random(seed)
    for number in range(many):
        rules = drawn_rules(chance)
        flights = drawn_flights(chance, rules, chance.randint(0, most if rules.many_strips() == 1 else 3), 14)
        yield rules, flights, drawn_closed(chance, 3, 12), chance.randint(0, 3)


def great_input(strips, many, seed):
    """An input with many labels, six kinds and twenty closed stretches."""
    chance = random.Random(seed)
    rows = [[[chance.randint(0, 3) for other in range(6)] for kind in range(6)] for strip in range(strips)]
    rules = Rules(*rows) if strips == 1 else Pair(*rows)
    flights = [(number % 6, chance.randint(0, 9), 150, chance.randint(0, 9), chance.randint(0, 5))
               for number in range(many)]
    closed = [(start, start + 1) for start in chance.sample(range(120), 20)]
    return rules, flights, closed


def as_values(things):
    """A copy of what is handed in, with rules as what they tell."""
    return [shown_rules(thing) if isinstance(thing, Rules) else copy.deepcopy(thing) for thing in things]


def asked(test, function, *things):
    """What a function tells, twice the same, with nothing changed of what is handed in.

    Each list and dict that is told is spoiled in between: it must be the asker's own.
    """
    kept = as_values(things)
    told = function(*things)
    answer = copy.deepcopy(told)
    spoil(told)
    test.assertEqual(as_values(things), kept)
    test.assertEqual(function(*things), answer)
    test.assertEqual(as_values(things), kept)
    return answer


def spoil(told):
    if isinstance(told, (list, tuple)):
        for thing in told:
            spoil(thing)
    if isinstance(told, dict):
        for thing in told.values():
            spoil(thing)
        told["spoiled"] = True
    if isinstance(told, list):
        told.append("spoiled")


def refused(test, refusal, function, *things):
    """The refusal of a call, by just this class, with nothing changed of what is handed in."""
    kept = as_values(things)
    with test.assertRaises(refusal) as taken:
        function(*things)
    test.assertIs(taken.exception.__class__, refusal)
    test.assertEqual(as_values(things), kept)
    return taken.exception
