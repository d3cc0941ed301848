"""Whether a paper "moved" tells which rows stand in other blocks than before, and nothing else is changed."""

from passpapers.middle import SAFE, row_names, rows_by_name
from passpapers.papers import are_pairs, blocks_wrong, each_wrong, odd_index


def moved_wrong(before, after, paper):
    """None, or a place at which after isn't before with rows moved as this paper tells."""
    return each_wrong(before, after, paper, "moved", function_wrong)


def function_wrong(was, function, told):
    if not are_moves(told):
        return (was[0], -1, -1)
    place = blocks_wrong(was[3], function)
    if place is None:
        place = ends_wrong(was, function)
    if place is None:
        place = rows_wrong(was, function)
    if place is None:
        place = order_wrong(was, function)
    if place is None:
        place = moves_wrong(was, function, told)
    return place


def are_moves(told):
    """Whether told is a tuple of (name, label), sorted, each name once."""
    return are_pairs(told) and list(told) == sorted(told)


def ends_wrong(was, function):
    for block, there in zip(was[3], function[3]):
        if block[3] != there[3]:
            return (function[0], there[0], len(there[2]))
    return None


def rows_wrong(was, function):
    """A place where the rows aren't the same, wherever they stand."""
    old = rows_by_name(was)
    new = rows_by_name(function)
    for name, (label, index, row) in new.items():
        if name not in old or old[name][2] != row:
            return (function[0], label, index)
    for name, (label, index, row) in old.items():
        if name not in new:
            return (function[0], label, -1)
    return None


def is_floating(row):
    return row[1] in SAFE


def staying(block):
    """The names of the block's rows that don't float."""
    return row_names([row for row in block[2] if not is_floating(row)])


def order_wrong(was, function):
    """A place where rows that don't float stand in other blocks, or in another order."""
    for block, there in zip(was[3], function[3]):
        names = staying(there)
        # A row that is missing here stands elsewhere, and is told there.
        wanted = [name for name in staying(block) if name in names]
        if wanted != names:
            return (function[0], there[0], row_names(there[2]).index(names[odd_index(wanted, names)]))
    return None


def moves_wrong(was, function, told):
    """A place where what is told isn't just what stands elsewhere."""
    old = rows_by_name(was)
    new = rows_by_name(function)
    moves = dict(told)
    for name, (label, index, row) in new.items():
        wanted = None if label == old[name][0] else label
        if moves.get(name) != wanted:
            return (function[0], label, index)
    return None if all([name in new for name in moves]) else (function[0], -1, -1)
