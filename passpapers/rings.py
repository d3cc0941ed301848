"""Rings: ends that lead round among some blocks alone."""

from passpapers.flow import reached


def leads_round(leads, labels):
    """The labels of these whose ends lead round in a ring among these alone."""
    inner = {label: [led for led in leads[label] if led in labels] for label in labels}
    return [label for label in labels if any([label in reached(inner, led, None) for led in inner[label]])]


def ring_end(leads, labels):
    """The label of a block of these whose end leads round in a ring among these alone; None where there is none such.

    An end without which there would be no ring is the one that is wrong; of several such the last leads back.
    """
    ringed = leads_round(leads, labels)
    if len(ringed) == 0:
        return None
    alone = [label for label in ringed if len(leads_round(leads, [other for other in ringed if other != label])) == 0]
    return ringed[-1] if len(alone) == 0 else alone[-1]
