"""Which ways lead through the blocks of a function."""

from passpapers.middle import ways_of


def leads_of(function):
    """For each label the labels that its block's end leads to."""
    return {block[0]: [label for label, args in ways_of(block[3])] for block in function[3]}


def reached(leads, start, without):
    """The labels to which a way leads from start, itself among them, not by the label without."""
    met = {}
    waiting = [start]
    while len(waiting) > 0:
        label = waiting.pop()
        if label != without and label not in met:
            met[label] = True
            waiting.extend(leads[label])
    return met


def first_label(function):
    return function[3][0][0]


def above_of(function):
    """For each label to which a way leads from the first block: the other labels without which none does."""
    leads = leads_of(function)
    first = first_label(function)
    labels = list(reached(leads, first, None))
    above = {label: {} for label in labels}
    for lying in labels:
        met = reached(leads, first, lying)
        for label in labels:
            if label not in met and label != lying:
                above[label][lying] = True
    return above
