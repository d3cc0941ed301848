"""Whether a paper "dropped" tells what is left out of a program, and nothing else is changed."""

from passpapers.forms import is_tuple_of
from passpapers.middle import SAFE, end_with, names_given, param_names, used_by, ways_of
from passpapers.numbers import is_number
from passpapers.papers import NOWHERE, function_differs, heads_wrong, is_paper, refused_at
from passpapers.unlike import all_unlike


def dropped_wrong(before, after, paper):
    """None, or a place at which after isn't before without what this paper tells."""
    place = refused_at(after)
    if place is not None:
        return place
    if not is_paper(paper, "dropped") or not is_tuple_of(paper[1], 2):
        return NOWHERE
    functions, body = paper[1]
    place = left_out_wrong(before, functions)
    if place is not None:
        return place
    staying = [function for function in before if function[0] not in functions]
    if not is_tuple_of(body, len(staying)):
        return NOWHERE
    place = heads_wrong(staying, after)
    if place is not None:
        return place
    for was, function, told in zip(staying, after, body):
        place = told_wrong(was, functions, told)
        if place is None:
            place = function_differs(blocks_left(was, told[0], told[1]), function)
        if place is not None:
            return place
    return None


def left_out_wrong(before, functions):
    """A place where the functions told as left out can't be."""
    if not isinstance(functions, tuple) or not all([isinstance(name, str) for name in functions]):
        return NOWHERE
    names = [function[0] for function in before]
    if not all_unlike(functions) or not all([name in names for name in functions]) or "main" in functions:
        return NOWHERE
    return None


def told_wrong(was, functions, told):
    """A place where what is told as left out of a function that stays can't be."""
    nowhere = (was[0], -1, -1)
    if not is_tuple_of(told, 2) or not are_numbers(told[0]) or not are_numbers(told[1]):
        return nowhere
    labels = told[0]
    if not all([label in [block[0] for block in was[3][1:]] for label in labels]):
        return nowhere
    names = {name: True for name in told[1]}
    given = {}
    for block in was[3]:
        if block[0] not in labels:
            given.update({name: True for name in names_given(block)})
            so = all([led not in labels for led, args in ways_of(block[3])])
            if not so or not all([may_row_stay(row, functions) and may_row_go(row, names) for row in block[2]]):
                return (was[0], block[0], -1)
    return None if all([name in given for name in names]) else nowhere


def are_numbers(thing):
    """Whether thing is a tuple of numbers, each once."""
    return isinstance(thing, tuple) and all([is_number(number) for number in thing]) and all_unlike(thing)


def may_row_stay(row, functions):
    return row[1] != "call" or row[2] not in functions


def may_row_go(row, names):
    return row[0] not in names or may_be_dropped(row)


def may_be_dropped(row):
    return row[1] in SAFE or row[1] in ("new", "get")


def blocks_left(function, labels, names):
    """The function's blocks without those of these labels, nor rows, params and arguments for params of these names."""
    gone = {name: True for name in names}
    kept = {block[0]: [name not in gone for name in param_names(block[1])] for block in function[3]}
    left = []
    for label, params, rows, end in function[3]:
        if label not in labels:
            left.append((label, tuple([param for param in params if param[0] not in gone]),
                         tuple([row for row in rows if row[0] not in gone]), end_left(end, kept)))
    return left


def end_left(end, kept):
    """The end without arguments for params that aren't kept."""
    ways = [(label, tuple([arg for arg, stays in zip(args, kept[label]) if stays])) for label, args in ways_of(end)]
    return end_with(end, used_by(end), ways)
