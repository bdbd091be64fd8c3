"""Flights: tuples (kind, first, last, due, price)."""

MOST_FLIGHTS = 40
GREATEST_NUMBER = 1000000000


def is_in_range(number):
    return 0 <= number <= GREATEST_NUMBER


def is_flight(rules, flight):
    kind = flight[0]
    first = flight[1]
    last = flight[2]
    if not 0 <= kind < rules.many_kinds() or first > last:
        return False
    # All behind the kind are times and a price, which have the same range.
    return all([is_in_range(number) for number in flight[1:]])


def is_flights(rules, flights):
    return len(flights) <= MOST_FLIGHTS and all([is_flight(rules, flight) for flight in flights])
