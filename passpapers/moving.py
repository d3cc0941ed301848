"""Rows moved out of rounds in which they come to the same each time."""

from passpapers.flow import labels_in_order
from passpapers.looks import Given
from passpapers.moved import is_floating
from passpapers.rounds import rounds_of


def move_out(program):
    """(outcome, paper): rows that float stand in no round all of whose args are given outside of it."""
    moved = [function_moved(function) for function in program]
    outcome = tuple([function for function, told in moved])
    return outcome, ("moved", tuple([told for function, told in moved]))


def function_moved(function):
    """The function, and its part of the paper."""
    homes = {name: place[0] for name, place in Given(function).places.items() if place is not None}
    rows = {block[0]: list(block[2]) for block in function[3]}
    old = dict(homes)
    order = labels_in_order(function)
    # Of two rounds one lies within the other, or they have no block in common: so once for each will do, in any order.
    for part in rounds_of(function):
        leave_round(part, order, rows, homes)
    blocks = [(label, params, tuple(rows[label]), end) for label, params, was, end in function[3]]
    told = sorted([(name, label) for name, label in homes.items() if label != old[name]])
    return function[:3] + (tuple(blocks),), tuple(told)


def leave_round(part, order, rows, homes):
    """Moves what it can out of the round, behind its porch's rows.

    The blocks are gone through so that a row comes behind all that it uses; what is moved stands in that order.
    """
    moving = []
    for label in order:
        if label in part.inside:
            for row in rows[label]:
                if is_floating(row) and not any([homes.get(arg) in part.inside for arg in row[3]]):
                    homes[row[0]] = part.porch
                    moving.append(row)
    for label in part.inside:
        rows[label] = [row for row in rows[label] if homes[row[0]] == label]
    rows[part.porch].extend(moving)
