"""Which ways lead through the blocks of a function."""

from passpapers.middle import ways_of


def leads_of(function):
    """For each label the labels that its block's end leads to."""
    return {block[0]: [label for label, args in ways_of(block[3])] for block in function[3]}


def reached(leads, start, without):
    """The labels to which a way leads from start, itself among them, not by the label without."""
    met = {}
    waiting = [start]
    while len(waiting) > 0:
        label = waiting.pop()
        if label != without and label not in met:
            met[label] = True
            waiting.extend(leads[label])
    return met


def first_label(function):
    return function[3][0][0]


def above_of(function):
    """For each label to which a way leads from the first block: the other labels without which none does."""
    leads = leads_of(function)
    first = first_label(function)
    labels = list(reached(leads, first, None))
    above = {label: {} for label in labels}
    for lying in labels:
        met = reached(leads, first, lying)
        for label in labels:
            if label not in met and label != lying:
                above[label][lying] = True
    return above


def arrivals_of(function):
    """For each label: (label, args) of each way that leads there, by the block whose end it is of."""
    arrivals = {block[0]: [] for block in function[3]}
    for block in function[3]:
        for label, args in ways_of(block[3]):
            arrivals[label].append((block[0], args))
    return arrivals


def labels_met(function):
    """The labels of the blocks to which a way leads from the first, itself among them."""
    return reached(leads_of(function), first_label(function), None)


def labels_in_order(function):
    """The labels to which a way leads, each behind all those that lie on every way to it."""
    leads = leads_of(function)
    first = first_label(function)
    met = {first: True}
    done = []
    under_way = [(first, list(leads[first]))]
    while len(under_way) > 0:
        label, waiting = under_way[-1]
        if len(waiting) == 0:
            done.append(label)
            under_way.pop()
        else:
            led = waiting.pop()
            if led not in met:
                met[led] = True
                under_way.append((led, list(leads[led])))
    return done[::-1]
