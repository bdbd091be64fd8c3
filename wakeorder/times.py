"""Times of a plan: whether they keep it, the earliest ones, and what pushes each to its time."""

from wakeorder.errors import NoPlace, NoTime
from wakeorder.openings import is_open, next_open
from wakeorder.plans import is_place


def spots_of(flights, plan):
    return [(flights[flight][0], strip) for flight, strip in plan]


# For each place ahead, the least time that the gap from it leaves.
def gap_times(rules, spots, times, place):
    return [times[ahead] + rules.apart(spots[ahead], spots[place]) for ahead in range(place)]


def keeps_window(flight, closed, time):
    return flight[1] <= time <= flight[2] and is_open(closed, time)


def keeps_plan(rules, flights, closed, plan, times):
    spots = spots_of(flights, plan)
    for place, time in enumerate(times):
        if not keeps_window(flights[plan[place][0]], closed, time):
            return False
        # Gaps are no distances: a place further ahead may ask for more than the neighbour.
        if any([time < least for least in gap_times(rules, spots, times, place)]):
            return False
    return True


def times_of(rules, flights, closed, plan):
    spots = spots_of(flights, plan)
    times = []
    for place, entry in enumerate(plan):
        flight = flights[entry[0]]
        time = next_open(closed, max([flight[1]] + gap_times(rules, spots, times, place)))
        if time > flight[2]:
            raise NoTime(entry[0], time)
        times.append(time)
    return times


def push_of(flight, closed, gaps, time):
    if time == flight[1]:
        return ("first",)
    if time in gaps:
        return ("gap", gaps.index(time))
    stops = [stop for start, stop in closed]
    return ("closed", stops.index(time))


def pushes_of(rules, flights, closed, plan):
    times = times_of(rules, flights, closed, plan)
    spots = spots_of(flights, plan)
    pushes = []
    for place, time in enumerate(times):
        gaps = gap_times(rules, spots, times, place)
        pushes.append(push_of(flights[plan[place][0]], closed, gaps, time))
    return pushes


def chain_of(rules, flights, closed, plan, place):
    if not is_place(flights, place):
        raise NoPlace("there is no such place")
    pushes = pushes_of(rules, flights, closed, plan)
    chain = [place]
    while pushes[chain[-1]][0] == "gap":
        chain.append(pushes[chain[-1]][1])
    return list(reversed(chain))
