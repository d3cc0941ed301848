"""Blocks joined that one jump alone leads to."""

from passpapers.flow import arrivals_of, labels_met
from passpapers.laying import laid_out
from passpapers.middle import block_of
from passpapers.pieces import pieces_along


def join_blocks(program):
    """(outcome, paper): no block, but a first one, is led to by one end alone that is a jump."""
    return laid_out(program, lambda function: pieces_along(function, paths_joined(function)))


def paths_joined(function):
    met = labels_met(function)
    arrivals = arrivals_of(function)
    led = {label: len([other for other, args in arrivals[label] if other in met]) for label in met}
    return {label: path_joined(function, label, led) for label in met}


def path_joined(function, label, led):
    """The path from that label on, along jumps to blocks to which nothing else leads; led tells how many ways lead."""
    path = [label]
    end = block_of(function, label)[3]
    while end[0] == "jump" and led[end[1]] == 1:
        path.append(end[1])
        end = block_of(function, end[1])[3]
    return tuple(path)
