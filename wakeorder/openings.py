"""Closed stretches: tuples (start, stop), closed from the start on and ahead of the stop."""

MOST_STRETCHES = 20
GREATEST_STOP = 1000000000


def is_stretch(stretch):
    return 0 <= stretch[0] < stretch[1] <= GREATEST_STOP


def is_closed(closed):
    return len(closed) <= MOST_STRETCHES and all([is_stretch(stretch) for stretch in closed])


def joined_stretches(closed):
    joined = []
    for start, stop in sorted(closed):
        # Where one ends and the next begins there is no open time between: these two are one as well.
        if joined and start <= joined[-1][1]:
            joined[-1] = (joined[-1][0], max(stop, joined[-1][1]))
        else:
            joined.append((start, stop))
    return joined


def is_open(closed, time):
    return not any([start <= time < stop for start, stop in closed])


def next_open(closed, time):
    # Joined, no two touch, so that a stop is open.
    for start, stop in joined_stretches(closed):
        if start <= time < stop:
            return stop
    return time


def last_open(closed, time):
    found = time
    for start, stop in joined_stretches(closed):
        if start <= time < stop:
            found = start - 1
    return found if found >= 0 else None
