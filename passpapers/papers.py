"""What the checkers of papers have in common."""

from passpapers.errors import NoMachine, NoMiddle
from passpapers.forms import is_tuple_of
from passpapers.looks import look_at_middle
from passpapers.machine import look_at_machine
from passpapers.middle import row_names
from passpapers.numbers import is_number
from passpapers.unlike import all_unlike

NOWHERE = ("", -1, -1)


def refused_at(program):
    """The place where the look refuses the program; None where it doesn't."""
    try:
        look_at_middle(program)
    except NoMiddle as e:
        return e.place
    return None


def machine_refused_at(machine):
    """The place where the look refuses the machine; None where it doesn't."""
    try:
        look_at_machine(machine)
    except NoMachine as e:
        return e.place
    return None


def is_paper(paper, kind):
    return is_tuple_of(paper, 2) and paper[0] == kind


def heads_wrong(before, after):
    """A place where the functions aren't the same by name, params and kind, in order."""
    if len(before) != len(after):
        return NOWHERE
    for was, function in zip(before, after):
        if was[:3] != function[:3]:
            return (function[0], -1, -1)
    return None


def each_wrong(before, after, paper, kind, checker):
    """The first place that the checker tells of a function before, after, and what the paper tells of it.

    What is after, the paper's own form and the functions' heads are looked at first.
    """
    place = refused_at(after)
    if place is not None:
        return place
    if not is_paper(paper, kind) or not is_tuple_of(paper[1], len(before)):
        return NOWHERE
    place = heads_wrong(before, after)
    if place is not None:
        return place
    for was, function, told in zip(before, after, paper[1]):
        place = checker(was, function, told)
        if place is not None:
            return place
    return None


def blocks_wrong(blocks, function):
    """A place where the function's blocks aren't these by label and params, in order."""
    for block, there in zip(blocks, function[3]):
        if block[:2] != there[:2]:
            return (function[0], there[0], -1)
    if len(blocks) != len(function[3]):
        return (function[0], -1, -1)
    return None


def rows_named_wrong(blocks, function):
    """A place where the blocks' rows aren't these by name, in order."""
    for block, there in zip(blocks, function[3]):
        wanted = row_names(block[2])
        names = row_names(there[2])
        if wanted != names:
            return (function[0], there[0], odd_index(wanted, names))
    return None


def with_moved(things, index, place):
    """These things, the one of that index standing at that place."""
    others = things[:index] + things[index + 1:]
    return others[:place] + things[index:index + 1] + others[place:]


def odd_index(wanted, there):
    """The index of what alone is too many or out of its order; else of the first that isn't as wanted.

    Of several alike, one of them too many, that is the last.
    """
    shorter = min(len(wanted), len(there))
    first = 0
    while first < shorter and there[first] == wanted[first]:
        first += 1
    if first == shorter or wanted.count(there[first]) != there.count(there[first]):
        return first
    for index in range(first + 1, shorter):
        if wanted[index] == there[first] and with_moved(there, first, index) == wanted:
            return first
        if there[index] == wanted[first] and with_moved(there, index, first) == wanted:
            return index
    return first


def rows_wrong(wanted, rows, wanted_end, end):
    """The index of a row, or of the end, of these that isn't as wanted; None where all are."""
    if wanted != rows:
        return odd_index(wanted, rows)
    return None if wanted_end == end else len(rows)


def function_differs(blocks, function):
    """A place where the function's blocks aren't just these."""
    place = blocks_wrong(blocks, function)
    if place is not None:
        return place
    for block, there in zip(blocks, function[3]):
        index = rows_wrong(block[2], there[2], block[3], there[3])
        if index is not None:
            return (function[0], there[0], index)
    return None


def program_differs(wanted, after):
    """A place where the program after isn't just the one that is wanted."""
    place = heads_wrong(wanted, after)
    if place is not None:
        return place
    for function, there in zip(wanted, after):
        place = function_differs(function[3], there)
        if place is not None:
            return place
    return None


def made_wrong(before, after, paper, kind, made):
    """A place where after isn't what made(before, body) makes by the paper's body, before itself if that is ().

    Where body tells nothing right, made tells None.
    """
    place = refused_at(after)
    if place is not None:
        return place
    if not is_paper(paper, kind):
        return NOWHERE
    wanted = before if paper[1] == () else made(before, paper[1])
    return NOWHERE if wanted is None else program_differs(wanted, after)


def are_pairs(pairs):
    """Whether these are a tuple of pairs of numbers, the first of each pair once."""
    if not isinstance(pairs, tuple) or not all([is_pair(pair) for pair in pairs]):
        return False
    return all_unlike([first for first, second in pairs])


def is_pair(pair):
    return is_tuple_of(pair, 2) and is_number(pair[0]) and is_number(pair[1])
