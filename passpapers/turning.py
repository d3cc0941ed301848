"""Rounds turned: what their heads do is done at their porches, too, the first time."""

from passpapers.flow import labels_met
from passpapers.laying import laid_out
from passpapers.middle import block_of
from passpapers.pieces import pieces_along
from passpapers.rounds import rounds_of

MOST_ROWS_TURNED = 8


def turn_rounds(program):
    """(outcome, paper): for rounds whose heads are short and branch, a path goes from porch to head."""
    return laid_out(program, lambda function: pieces_along(function, paths_turned(function)))


def paths_turned(function):
    paths = {label: (label,) for label in labels_met(function)}
    for part in rounds_of(function):
        label, params, rows, end = block_of(function, part.head)
        if len(rows) <= MOST_ROWS_TURNED and end[0] == "branch":
            paths[part.porch] = (part.porch, part.head)
    return paths
