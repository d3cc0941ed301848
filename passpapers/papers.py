"""What the checkers of papers between programs of the middle have in common."""

from passpapers.errors import NoMiddle
from passpapers.forms import is_tuple_of
from passpapers.looks import look_at_middle
from passpapers.middle import row_names

NOWHERE = ("", -1, -1)


def refused_at(program):
    """The place where the look refuses the program; None where it doesn't."""
    try:
        look_at_middle(program)
    except NoMiddle as e:
        return e.place
    return None


def is_paper(paper, kind):
    return is_tuple_of(paper, 2) and paper[0] == kind


def heads_wrong(before, after):
    """A place where the functions aren't the same by name, params and kind, in order."""
    if len(before) != len(after):
        return NOWHERE
    for was, function in zip(before, after):
        if was[:3] != function[:3]:
            return (function[0], -1, -1)
    return None


def each_wrong(before, after, paper, kind, checker):
    """The first place that the checker tells of a function before, after, and what the paper tells of it.

    What is after, the paper's own form and the functions' heads are looked at first.
    """
    place = refused_at(after)
    if place is not None:
        return place
    if not is_paper(paper, kind) or not is_tuple_of(paper[1], len(before)):
        return NOWHERE
    place = heads_wrong(before, after)
    if place is not None:
        return place
    for was, function, told in zip(before, after, paper[1]):
        place = checker(was, function, told)
        if place is not None:
            return place
    return None


def blocks_wrong(blocks, function):
    """A place where the function's blocks aren't these by label and params, in order."""
    for block, there in zip(blocks, function[3]):
        if block[:2] != there[:2]:
            return (function[0], there[0], -1)
    if len(blocks) != len(function[3]):
        return (function[0], -1, -1)
    return None


def rows_named_wrong(blocks, function):
    """A place where the blocks' rows aren't these by name, in order."""
    for block, there in zip(blocks, function[3]):
        wanted = row_names(block[2])
        names = row_names(there[2])
        if wanted != names:
            return (function[0], there[0], odd_index(wanted, names))
    return None


def odd_index(wanted, names):
    """The index of the name that alone is too many or out of its order; else the first that isn't as wanted."""
    for index, name in enumerate(names):
        others = names[:index] + names[index + 1:]
        if others == [other for other in wanted if other != name]:
            return index
    index = 0
    while index < len(names) and index < len(wanted) and names[index] == wanted[index]:
        index += 1
    return index
