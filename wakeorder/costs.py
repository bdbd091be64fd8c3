"""Costs: what it costs that flights are later than they are due."""


def late_cost(flight, time):
    due = flight[3]
    price = flight[4]
    return price * max(0, time - due)


def cost_of(flights, plan, times):
    return sum([late_cost(flights[entry[0]], time) for entry, time in zip(plan, times)])
