"""Plans: lists of tuples (flight, strip), one for each flight."""


def is_plan(rules, flights, plan):
    if sorted([flight for flight, strip in plan]) != list(range(len(flights))):
        return False
    return all([0 <= strip < rules.many_strips() for flight, strip in plan])


def is_place(flights, place):
    # A number below 0 would else count from the end.
    return 0 <= place < len(flights)


def plain_plan(order):
    return [(flight, 0) for flight in order]
