"""Papers: for each beginning the labels by which it is seen what a plan costs at least."""

from wakeorder.errors import TooMany
from wakeorder.labels import first_label, is_no_worse, label_behind
from wakeorder.shifts import beginnings_of, many_orders, smaller_by_one

MOST_PLANS = 5000


def many_plans(rules, many, shift):
    plans = many_orders(many, shift)
    for flight in range(many):
        plans = plans * rules.many_strips()
    return plans


def refuse_too_many(rules, flights, shift):
    if many_plans(rules, len(flights), shift) > MOST_PLANS:
        raise TooMany("there are more than 5000 plans")


def all_beginnings(many, shift):
    # Of none to all flights, so that each comes behind those that are smaller by one.
    beginnings = []
    for size in range(many + 1):
        beginnings.extend(beginnings_of(many, shift, size))
    return beginnings


# A dict whose keys are the labels behind those that a paper has one flight ahead of a beginning.
def labels_behind(rules, flights, closed, paper, some):
    found = {}
    for smaller, flight in smaller_by_one(some):
        for label in paper.get(smaller, []):
            for strip in range(rules.many_strips()):
                behind = label_behind(rules, flights, closed, label, flight, strip)
                if behind is not None:
                    found[behind] = True
    return found


def has_no_worse(labels, label):
    for one in labels:
        if is_no_worse(one, label):
            return True
    return False


def best_labels(labels):
    best = []
    # Sorted, none is no worse than an unlike one ahead of it: those that stay need no second look.
    for label in sorted(labels):
        if not has_no_worse(best, label):
            best.append(label)
    return best


def paper_of(rules, flights, closed, shift):
    refuse_too_many(rules, flights, shift)
    paper = {}
    for some in all_beginnings(len(flights), shift):
        if some == ():
            paper[some] = [first_label(rules)]
        else:
            paper[some] = best_labels(labels_behind(rules, flights, closed, paper, some))
    return paper


def is_right_list(rules, flights, closed, paper, some):
    if some == ():
        return paper[some] == [first_label(rules)]
    behind = labels_behind(rules, flights, closed, paper, some)
    told = dict([(label, True) for label in paper[some]])
    if not all([label in behind for label in told]):
        return False
    # Most are told themselves: only the others are held against each one that is told.
    return all([has_no_worse(told, label) for label in behind if label not in told])


def is_paper(rules, flights, closed, shift, paper):
    refuse_too_many(rules, flights, shift)
    beginnings = all_beginnings(len(flights), shift)
    if sorted(paper) != sorted(beginnings):
        return False
    return all([is_right_list(rules, flights, closed, paper, some) for some in beginnings])
