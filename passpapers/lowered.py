"""Whether a paper "lowered" tells how a tree became a program of the middle."""

from passpapers.forms import is_tuple_of
from passpapers.numbers import is_number
from passpapers.papers import NOWHERE, is_paper, refused_at
from passpapers.plans import plan_of
from passpapers.tables import kind_number, parts_headed
from passpapers.unlike import all_unlike
from passpapers.walks import Amiss, Ground, Mend, Walk, Wanting, walk_all

NO_MEND = (None, None)


def lowered_wrong(tree, program, paper):
    """None, or a place at which the program isn't the tree by this paper."""
    place = refused_at(program)
    if place is not None:
        return place
    funs = list(parts_headed(tree, "fun").values())
    if len(funs) != len(program) or not is_paper(paper, "lowered") or not is_tuple_of(paper[1], len(program)):
        return NOWHERE
    for fun, function, told in zip(funs, program, paper[1]):
        place = head_wrong(tree, fun, function)
        if place is None:
            place = told_wrong(function, told)
        if place is None:
            place = body_wrong(tree, fun, function, told)
        if place is not None:
            return place
    return None


def head_wrong(tree, fun, function):
    fields = {name: record[2:] for name, record in parts_headed(tree, "record").items()}
    kinds = [kind_number(fields, kind) for kind in fun[2][1::2]]
    head = (fun[1], kinds, kind_number(fields, fun[3]))
    if head != (function[0], [kind for name, kind in function[1]], function[2]):
        return (function[0], -1, -1)
    return None


def told_wrong(function, told):
    """A place where what is told isn't a tuple of labels with pairs, one for each block but the first."""
    blocks = function[3][1:]
    if not is_tuple_of(told, len(blocks)):
        return (function[0], -1, -1)
    for block, entry in zip(blocks, told):
        if not is_tuple_of(entry, 2) or not is_number(entry[0]):
            return (function[0], block[0], -1)
        if entry[0] != block[0] or not are_pairs(entry[1]):
            return (function[0], block[0], -1)
    return None


def are_pairs(pairs):
    if not isinstance(pairs, tuple) or not all([is_pair(pair) for pair in pairs]):
        return False
    return all_unlike([variable for variable, name in pairs])


def is_pair(pair):
    return is_tuple_of(pair, 2) and isinstance(pair[0], str) and is_number(pair[1])


def body_wrong(tree, fun, function, told):
    ground = Ground(plan_of(tree, fun), fun[2][::2], function, told)
    walk = Walk(ground, Mend(NO_MEND, False, []))
    try:
        walk_all(walk)
    except Amiss as e:
        label, index = spot_alone(walk, e.spot)
        return (function[0], label, index)
    return None


def spot_alone(walk, amiss):
    """The row or end that alone is wrong; where there is none such, the one at which the walk went amiss.

    The walk would go the same way again but for the spots that it came to, so only these may mend it.
    """
    if is_mended_by(walk.ground, amiss) or is_too_many(walk.ground, amiss):
        return amiss
    tried = {amiss: True}
    for spot in walk.trail[::-1]:
        if spot not in tried and is_wrong_behind(walk.ground, spot):
            return spot
        tried[spot] = True
    return amiss


def is_wrong_behind(ground, spot):
    """Whether a row or an end that the walk took as it is was wrong all the same.

    An end may lead elsewhere; a row may only be too many, and then the next one is like it.
    """
    rows = ground.blocks[spot[0]][2]
    if spot[1] == len(rows):
        return is_mended_by(ground, spot)
    alike = spot[1] + 1 < len(rows) and rows[spot[1]][1:] == rows[spot[1] + 1][1:]
    return alike and is_too_many(ground, spot)


def is_mended_by(ground, spot):
    return goes_through(ground, Mend(spot, False, []))


def is_too_many(ground, spot):
    rows = ground.blocks[spot[0]][2]
    # A row whose name is used isn't too many.
    if spot[1] == len(rows) or rows[spot[1]][0] in ground.wanted_names:
        return False
    return goes_through(ground, Mend(spot, True, []))


def goes_through(ground, mend):
    """Whether the walk goes through, the spot being mended; an end that is mended may lead anywhere."""
    try:
        walk_all(Walk(ground, mend))
    except Amiss:
        return False
    except Wanting as e:
        return leads_through(ground, mend, e.labels)
    return True


def leads_through(ground, mend, labels):
    """Whether the mended end has but to lead to one of these labels, too."""
    for label in labels:
        if goes_through(ground, Mend(mend.spot, False, mend.labels + [label])):
            return True
    return False
