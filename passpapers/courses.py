"""The walk of one block of a machine along its block of the middle.

In the stead of one row there may stand ("any", None, target, ()), for a load, a save or a move that nobody knows but
for its target, or ("next", None, target, ()), for the next row of the middle with whatever sources hold its args. Where
the target is None, the first is no row at all. So one finds out whether one row alone is wrong.
"""

from passpapers.holding import Holding
from passpapers.machine import labels_led
from passpapers.middle import param_names, used_by, ways_of
from passpapers.places import is_carry, place_written, places_read


class Course:
    """What a function's blocks are walked by: the middle's blocks, and what the paper tells of the machine's."""

    def __init__(self, function, told):
        self.blocks = {block[0]: block for block in function[3]}
        self.told = {label: (block, side, places) for label, block, side, places in told}


class Stray:
    """Where a walk goes astray: a row's or the end's index, and the place that doesn't hold what is wanted, if any."""

    def __init__(self, index, where):
        self.index = index
        self.where = where


def stray_of(course, label, rows, end):
    """Where the machine's block of that label, were these its rows and its end, goes astray; None where it doesn't."""
    holding, stray = walk_rows(course, label, rows)
    return walk_end(course, label, holding, len(rows), end) if stray is None else stray


def walk_rows(course, label, rows):
    """What holds what behind these rows, and where they go astray, if they do."""
    own, side, places = course.told[label]
    holding = Holding(places)
    # Behind the middle's block there are no more rows of it.
    waiting = list(course.blocks[own][2][::-1]) if side == -1 else []
    for index, row in enumerate(rows):
        stray = walk_row(holding, waiting, index, row)
        if stray is not None:
            return holding, stray
    return holding, None if len(waiting) == 0 else Stray(len(rows), None)


def walk_row(holding, waiting, index, row):
    """Walks the row; tells where it goes astray. The last of those waiting is the middle's next row."""
    target = place_written(row)
    if is_carry(row):
        holding.carry(places_read(row)[0], target)
        return None
    if row[0] == "any":
        if target is not None:
            holding.open_place(target)
        return None
    if len(waiting) == 0 or (row[0] != "next" and row[:2] != waiting[-1][1:3]):
        return Stray(index, None)
    name, op, told, args = waiting.pop()
    if row[0] == "next":
        if not all([is_at_hand(holding, op, arg) for arg in args]):
            return Stray(index, None)
    else:
        for where, arg in zip(places_read(row), args):
            if not holding.is_held(where, arg):
                return Stray(index, where)
    holding.give(name, target)
    return None


def is_at_hand(holding, op, name):
    """Whether a row of that op can read the name: a call from a slot, others from a register."""
    return any([(where < 0) == (op == "call") for where in holding.where_held(name)])


def walk_end(course, label, holding, index, end):
    own, side, places = course.told[label]
    if side >= 0:
        if end[0] != "jump":
            return Stray(index, None)
        return walk_way(course, label, holding, index, side, end[1])
    wanted = course.blocks[own][3]
    if end[0] != wanted[0] or (end[0] == "fail" and end != wanted):
        return Stray(index, None)
    for name in used_by(wanted):
        if not holding.is_held(end[1], name):
            return Stray(index, end[1])
    for number, led in enumerate(labels_led(end)):
        stray = walk_way(course, label, holding, index, number, led)
        if stray is not None:
            return stray
    return None


def walk_way(course, label, holding, index, side, led):
    """Walks the way of that side of the middle's end, by which the machine's block leads to the label led."""
    own = course.told[label][0]
    block, other_side, places = course.told[led]
    handed = {}
    if (block, other_side) != (own, side):
        wanted, args = ways_of(course.blocks[own][3])[side]
        if (block, other_side) != (wanted, -1):
            return Stray(index, None)
        handed = dict(zip(param_names(course.blocks[wanted][1]), args))
    for where, name in places:
        if not holding.is_held(where, handed.get(name, name)):
            return Stray(index, where)
    return None
