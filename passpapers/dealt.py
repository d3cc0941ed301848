"""Whether a paper "dealt" tells how a program of the middle became a machine."""

from passpapers.courses import Course, stray_of
from passpapers.forms import is_tuple_of
from passpapers.mending import index_alone
from passpapers.middle import all_names, param_names, ways_of
from passpapers.numbers import is_number
from passpapers.papers import NOWHERE, is_pair, is_paper, machine_refused_at
from passpapers.places import slot_place


def dealt_wrong(program, machine, paper):
    """None, or a place at which the machine isn't the program by this paper."""
    place = machine_refused_at(machine)
    if place is not None:
        return place
    if not is_paper(paper, "dealt") or not is_tuple_of(paper[1], len(program)) or len(program) != len(machine[1]):
        return NOWHERE
    for function, made, told in zip(program, machine[1], paper[1]):
        place = function_wrong(function, made, machine[0], told)
        if place is not None:
            return place
    return None


def function_wrong(function, made, registers, told):
    """A place where the function that was made isn't the middle's one."""
    if (function[0], len(function[1])) != made[:2]:
        return (made[0], -1, -1)
    place = told_wrong(function, made, registers, told)
    if place is not None:
        return place
    course = Course(function, told)
    strays = [(block, stray_of(course, block[0], block[1], block[2])) for block in made[3]]
    strays = [(block, stray) for block, stray in strays if stray is not None]
    if len(strays) == 0:
        return None
    block, stray = strays[0]
    # Where several blocks go astray, no row or end alone is wrong.
    index = index_alone(course, block, stray) if len(strays) == 1 else stray.index
    return (made[0], block[0], index)


def told_wrong(function, made, registers, told):
    """A place where what is told isn't a block, a side and places for each block that was made."""
    if not is_tuple_of(told, len(made[3])):
        return (made[0], -1, -1)
    sides = {block[0]: len(ways_of(block[3])) for block in function[3]}
    names = all_names(function)
    for block, entry in zip(made[3], told):
        if not is_entry(entry, sides) or entry[0] != block[0]:
            return (made[0], block[0], -1)
        if not all([-made[2] <= where < registers and name in names for where, name in entry[3]]):
            return (made[0], block[0], -1)
    label, own, side, places = told[0]
    params = {(slot_place(slot), name): True for slot, name in enumerate(param_names(function[1]))}
    if (own, side) != (function[3][0][0], -1) or not all([place in params for place in places]):
        return (made[0], label, -1)
    return None


def is_entry(entry, sides):
    """Whether entry is a label, a block of the middle, a side of its end, or -1, and places of names."""
    if not is_tuple_of(entry, 4) or not all([is_number(number) for number in entry[:3]]):
        return False
    if entry[1] not in sides or not -1 <= entry[2] < sides[entry[1]]:
        return False
    return isinstance(entry[3], tuple) and all([is_pair(pair) for pair in entry[3]])
