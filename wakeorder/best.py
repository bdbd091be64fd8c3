"""The best plan within a shift, found by its paper."""

from wakeorder.costs import cost_of
from wakeorder.crowds import crowd_of
from wakeorder.errors import NoPlan
from wakeorder.labels import label_behind
from wakeorder.papers import paper_of
from wakeorder.shifts import smaller_by_one
from wakeorder.times import times_of


# How a paper comes to a label of a beginning: (the beginning ahead, its label, (flight, strip)).
def step_to(rules, flights, closed, paper, some, label):
    for smaller, flight in smaller_by_one(some):
        for ahead in paper.get(smaller, []):
            for strip in range(rules.many_strips()):
                if label_behind(rules, flights, closed, ahead, flight, strip) == label:
                    return (smaller, ahead, (flight, strip))


def plan_to(rules, flights, closed, paper, some, label):
    there = (some, label)
    plan = []
    while there[0] != ():
        step = step_to(rules, flights, closed, paper, there[0], there[1])
        plan.append(step[2])
        there = (step[0], step[1])
    return list(reversed(plan))


def best_plan(rules, flights, closed, shift):
    paper = paper_of(rules, flights, closed, shift)
    everyone = tuple(range(len(flights)))
    labels = paper.get(everyone, [])
    if not labels:
        raise NoPlan(crowd_of(rules, flights) or [])
    plan = plan_to(rules, flights, closed, paper, everyone, min(labels))
    times = times_of(rules, flights, closed, plan)
    return (cost_of(flights, plan, times), plan, times)
