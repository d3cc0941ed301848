"""The rounds of a function. Blocks to which no way leads are left out."""

from passpapers.flow import above_of, leads_of, reached
from passpapers.middle import block_of


class Round:
    """A round: the label of its head, that of its porch, and the labels of all its blocks, its head's among them."""

    def __init__(self, head, porch, inside):
        self.head = head
        self.porch = porch
        self.inside = inside


def rounds_of(function):
    """The rounds, in their heads' order."""
    above = above_of(function)
    leads = {label: led for label, led in leads_of(function).items() if label in above}
    found = []
    for block in function[3]:
        porch = porch_of(function, above, leads, block[0])
        if porch is not None:
            found.append(Round(block[0], porch, inside_of(above, leads, block[0], porch)))
    return found


def lies_above(above, head, label):
    """Whether the head lies on every way to the block of that label."""
    return label == head or head in above[label]


def porch_of(function, above, leads, head):
    """The label of the porch; None where the block is no round's head."""
    leading = [label for label in leads if head in leads[label]]
    outer = [label for label in leading if not lies_above(above, head, label)]
    if len(outer) != 1 or len(leading) == 1:
        return None
    return outer[0] if block_of(function, outer[0])[3][0] == "jump" else None


def inside_of(above, leads, head, porch):
    """The labels of the blocks below the head from which a way leads back to it, not by its porch."""
    inside = {}
    for label in above:
        if lies_above(above, head, label) and head in reached(leads, label, porch):
            inside[label] = True
    return inside
