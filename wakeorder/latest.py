"""Latest times of a plan, the free times of each place, and times that have one of these."""

from wakeorder.errors import NoPlace, NotFree
from wakeorder.openings import is_open, last_open
from wakeorder.plans import is_place
from wakeorder.times import spots_of, times_of


def latest_of(rules, flights, closed, plan):
    # Where there are earliest times there are latest ones; where there are none, this refuses.
    times = times_of(rules, flights, closed, plan)
    spots = spots_of(flights, plan)
    many = len(plan)
    for place in range(many - 1, -1, -1):
        behind = [times[later] - rules.apart(spots[place], spots[later]) for later in range(place + 1, many)]
        times[place] = last_open(closed, min([flights[plan[place][0]][2]] + behind))
    return times


def free_of(rules, flights, closed, plan):
    earliest = times_of(rules, flights, closed, plan)
    return list(zip(earliest, latest_of(rules, flights, closed, plan)))


def flight_from(flight, time):
    return (flight[0], time, flight[2], flight[3], flight[4])


def times_with(rules, flights, closed, plan, place, time):
    if not is_place(flights, place):
        raise NoPlace("there is no such place")
    free = free_of(rules, flights, closed, plan)[place]
    if not free[0] <= time <= free[1] or not is_open(closed, time):
        raise NotFree("this is no open one of the place's free times")
    # An open time that is no less than the earliest one is just where a flight comes that may not come ahead of it.
    number = plan[place][0]
    changed = list(flights)
    changed[number] = flight_from(flights[number], time)
    return times_of(rules, changed, closed, plan)
