"""Whether a paper "ways" tells along which paths of before the blocks of after go."""

from passpapers.flow import first_label
from passpapers.forms import is_tuple_of
from passpapers.middle import all_names, param_names, ways_of
from passpapers.numbers import is_number
from passpapers.papers import are_pairs, each_wrong
from passpapers.roads import Road, odd_row_of, stray_of


def ways_wrong(before, after, paper):
    """None, or a place at which after doesn't go along before by this paper."""
    return each_wrong(before, after, paper, "ways", function_wrong)


def function_wrong(was, function, told):
    place = entries_wrong(was, function, told)
    if place is not None:
        return place
    missing = name_missing(function, told)
    if missing is not None:
        return place_misnamed(was, function, told, missing)
    road = Road(was, function, told)
    for label, params, rows, end in function[3]:
        stray = stray_of(road, label, rows, end)
        if stray is not None:
            return (function[0], label, odd_row_of(road, label, rows, end, stray))
    return None


def is_all_walked(was, function, told):
    """Whether all that is told of names is there, and every block goes along its path."""
    road = Road(was, function, told)
    strays = [stray_of(road, label, rows, end) is not None for label, params, rows, end in function[3]]
    return name_missing(function, told) is None and not any(strays)


def entries_wrong(was, function, told):
    """A place where what is told isn't a path, with pairs of names, for each block."""
    if not is_tuple_of(told, len(function[3])):
        return (function[0], -1, -1)
    labels = [block[0] for block in was[3]]
    names = all_names(was)
    for block, entry in zip(function[3], told):
        if not is_entry(entry) or entry[0] != block[0]:
            return (function[0], block[0], -1)
        if not all([label in labels for label in entry[1]]) or not all([old in names for old, new in entry[2]]):
            return (function[0], block[0], -1)
    label, path, pairs = told[0]
    params = param_names(function[1])
    if path[0] != first_label(was) or not all([old == new and old in params for old, new in pairs]):
        return (function[0], label, -1)
    return None


def is_entry(entry):
    if not is_tuple_of(entry, 3) or not is_number(entry[0]):
        return False
    return is_path(entry[1]) and are_pairs(entry[2])


def is_path(path):
    return isinstance(path, tuple) and len(path) > 0 and all([is_number(label) for label in path])


def name_missing(function, told):
    """The first name told of after that after doesn't give; None where there is none such."""
    names = all_names(function)
    for label, path, pairs in told:
        for old, new in pairs:
            if new not in names:
                return new
    return None


def place_misnamed(was, function, told, name):
    """The place of the row that alone should have the missing name; else that of a block where it is told."""
    labels = [label for label, path, pairs in told if name in [new for old, new in pairs]]
    for block in function[3]:
        # The row stands where it leads on to what tells its name.
        if any([led in labels for led, args in ways_of(block[3])]):
            for index in range(len(block[2])):
                if is_all_walked(was, with_row_named(function, block[0], index, name), told):
                    return (function[0], block[0], index)
    return (function[0], labels[0], -1)


def with_row_named(function, label, index, name):
    """The function with another name for one row."""
    blocks = []
    for block in function[3]:
        rows = list(block[2])
        if block[0] == label:
            rows[index] = (name,) + rows[index][1:]
        blocks.append(block[:2] + (tuple(rows),) + block[3:])
    return function[:3] + (tuple(blocks),)
