"""Shifts: the orders in which no flight is further than so many places from its number."""

from wakeorder.errors import TooMany

MOST_ORDERS = 5000


def is_within(order, shift):
    return all([abs(flight - place) <= shift for place, flight in enumerate(order)])


# All choices of so many of a rising list, each a rising tuple, rising.
def choices_of(pool, size):
    if size == 0:
        return [()]
    choices = []
    for place, one in enumerate(pool):
        for rest in choices_of(pool[place + 1:], size - 1):
            choices.append((one,) + rest)
    return choices


def beginnings_of(many, shift, size):
    # All flights that are further than the shift ahead of its end must be in a beginning, none that are further
    # behind can be. Of those between any will do: put rising, none of them is further than the shift from its place.
    sure = tuple(range(max(0, size - shift)))
    free = list(range(len(sure), min(many, size + shift)))
    return [sure + some for some in choices_of(free, size - len(sure))]


# For each flight of a beginning, the tuple (the beginning without it, the flight).
def smaller_by_one(some):
    return [(some[:place] + some[place + 1:], flight) for place, flight in enumerate(some)]


def many_orders(many, shift):
    # How many orders of its own flights each beginning has, from one size to the next.
    counts = {(): 1}
    for size in range(1, many + 1):
        grown = {}
        for some in beginnings_of(many, shift, size):
            grown[some] = sum([counts.get(smaller, 0) for smaller, flight in smaller_by_one(some)])
        counts = grown
    return sum(counts.values())


def orders_within(many, shift):
    if many_orders(many, shift) > MOST_ORDERS:
        raise TooMany("there are more than 5000 orders")
    orders = [[]]
    for size in range(1, many + 1):
        # What is no beginning leads to no order: else there might be far more of these than orders.
        beginnings = dict([(some, True) for some in beginnings_of(many, shift, size)])
        longer = []
        for order in orders:
            for flight in range(many):
                if flight not in order and tuple(sorted(order + [flight])) in beginnings:
                    longer.append(order + [flight])
        orders = longer
    return orders
