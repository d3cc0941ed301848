"""Ways led past blocks that do nothing but lead on, or that branch by what is known on the way."""

from passpapers.flow import labels_met
from passpapers.laying import laid_out
from passpapers.middle import block_of, param_names, ways_of
from passpapers.pieces import is_too_much, pieces_along


def thread(program):
    """(outcome, paper): paths go on along jumps to such blocks."""
    return laid_out(program, pieces_threaded)


def pieces_threaded(function):
    """The pieces by paths that go on behind branches, too, or, where that is too much, that end with these."""
    pieces = pieces_along(function, paths_threaded(function, True))
    if is_too_much(function, pieces):
        pieces = pieces_along(function, paths_threaded(function, False))
    return pieces


def paths_threaded(function, is_far):
    return {label: path_threaded(function, label, is_far) for label in labels_met(function)}


def path_threaded(function, label, is_far):
    path = [label]
    more = labels_behind(function, path, is_far)
    while len(more) > 0:
        path.extend(more)
        more = labels_behind(function, path, is_far)
    return tuple(path)


def labels_behind(function, path, is_far):
    """The labels by which the path is to go on, behind a branch only if is_far; none where it ends."""
    label, params, rows, end = block_of(function, path[-1])
    if end[0] != "jump" or end[1] in path:
        return []
    led = block_of(function, end[1])
    if led[3][0] == "jump" and len(led[2]) == 0:
        return [led[0]]
    if led[3][0] != "branch":
        return []
    handed = dict(zip(param_names(led[1]), end[2]))
    numbers = {row[0]: row[2] for row in rows if row[1] == "num"}
    if handed.get(led[3][1]) not in numbers:
        return []
    behind = ways_of(led[3])[1 if numbers[handed[led[3][1]]] == 0 else 0][0]
    # Where that one is in the path already, the way round stays a way round.
    return [led[0], behind] if is_far and behind not in path + [led[0]] else [led[0]]
