"""Flights: tuples (kind, first, last, due, price)."""

MOST_FLIGHTS = 40
GREATEST_NUMBER = 1000000000


def is_in_range(number):
    return 0 <= number <= GREATEST_NUMBER


# Of all but the kind: rows of a sheet tell flights while there are no rules yet that could be asked for kinds.
def has_right_numbers(flight):
    first = flight[1]
    last = flight[2]
    # All behind the kind are times and a price, which have the same range.
    return first <= last and all([is_in_range(number) for number in flight[1:]])


def is_flight(rules, flight):
    return 0 <= flight[0] < rules.many_kinds() and has_right_numbers(flight)


def is_flights(rules, flights):
    return len(flights) <= MOST_FLIGHTS and all([is_flight(rules, flight) for flight in flights])
