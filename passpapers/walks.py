"""The walk of a tree's function along the blocks of its function of the middle, by the paper's pairs.

The walk may be told to mend one spot, a row or an end: to take it as the walk would have it there, or, where it is a
row, to pass over it. So one finds out whether that row or end alone is wrong.
"""

from passpapers.middle import names_used, param_names, ways_of
from passpapers.plans import names_made


class Amiss(Exception):
    """The walk comes to a row or an end that isn't as it would have it."""

    def __init__(self, spot):
        self.spot = spot


class Wanting(Exception):
    """The walk mends an end and has to be told where it leads: to one of these labels."""

    def __init__(self, labels):
        self.labels = labels


class Ground:
    """What one function's walk goes along: its plan, its blocks with their pairs, the names used, and what is first."""

    def __init__(self, plan, variables, function, told):
        self.plan = plan
        self.blocks = {block[0]: block for block in function[3]}
        self.params = {block[0]: param_names(block[1]) for block in function[3]}
        self.pairs = {label: pairs for label, pairs in told}
        self.wanted_names = names_used(function)
        self.first = function[3][0][0]
        self.known = dict(zip(variables, param_names(function[1])))


class Mend:
    """The spot to be mended, whether its row is passed over, and the labels to which its end leads."""

    def __init__(self, spot, passed, labels):
        self.spot = spot
        self.passed = passed
        self.labels = labels


class Walk:
    """A walk under way: its ground, its mend, and the spots that it came to, in order."""

    def __init__(self, ground, mend):
        self.ground = ground
        self.mend = mend
        self.trail = []
        self.wanted = {}

    def is_mended(self, point):
        return self.mend.spot == point.here() and not self.mend.passed

    def make_good(self, point, side, wanted):
        """Takes the mended spot as wanted: the same whenever the walk comes there, for it can't be two things."""
        if self.wanted.setdefault(side, wanted) != wanted:
            raise Amiss(point.here())

    def is_passed(self, point):
        return self.mend.spot == point.here() and self.mend.passed


class Point:
    """Where a walk has got to: a block, a row in it, and the names that stand for variables there."""

    def __init__(self, label, names):
        self.label = label
        self.index = 0
        self.names = names

    def here(self):
        return (self.label, self.index)


def come_to(walk, point):
    """Notes the spot; passes over a row that is left out."""
    walk.trail.append(point.here())
    if walk.is_passed(point):
        point.index += 1


def want_taken(walk, point, there, wanted):
    """What is there is what the walk wants, or mended so."""
    if walk.is_mended(point):
        walk.make_good(point, 0, wanted)
    elif there != wanted:
        raise Amiss(point.here())


def take_row(walk, point, op, told, args):
    """The name of the next row, which is to be this one."""
    come_to(walk, point)
    rows = walk.ground.blocks[point.label][2]
    if point.index == len(rows) or None in args:
        raise Amiss(point.here())
    row = rows[point.index]
    want_taken(walk, point, row[1:], (op, told, args))
    point.index += 1
    return row[0]


def take_end(walk, point):
    """The block's end, no row being left over."""
    come_to(walk, point)
    label, params, rows, end = walk.ground.blocks[point.label]
    if point.index < len(rows):
        raise Amiss(point.here())
    return end


def take_steps(walk, point, steps):
    """The name that stands for the steps' value."""
    name = names_made(steps, point.names, lambda op, told, args: take_row(walk, point, op, told, args))
    if name is None:
        raise Amiss(point.here())
    return name


def asked_way(walk, point, label):
    """A way to that label with such arguments as its pairs ask for."""
    asked = {name: point.names.get(variable) for variable, name in walk.ground.pairs[label]}
    return label, tuple([asked.get(name) for name in walk.ground.params[label]])


def is_held(walk, point, way):
    """Whether all pairs of the block led to hold by that way."""
    label, args = way
    handed = dict(zip(walk.ground.params[label], args))
    for variable, name in walk.ground.pairs[label]:
        held = handed.get(name, name)
        if held is None or held != point.names.get(variable):
            return False
    return True


def mended_way(walk, point, branched, side, label):
    """The way on that side of a mended end: to the label, or, where that is None, to the one told for that side."""
    if label is None and side >= len(walk.mend.labels):
        others = [other for other in walk.ground.pairs if is_held(walk, point, asked_way(walk, point, other))]
        raise Wanting(others)
    way = asked_way(walk, point, walk.mend.labels[side] if label is None else label)
    walk.make_good(point, side, (branched, way))
    return way


def branch_way(walk, point, name, side):
    """The way on that side of the block's end, which is to be a branch by the name."""
    end = take_end(walk, point)
    if walk.is_mended(point):
        return mended_way(walk, point, name, side, None)
    if end[0] != "branch" or end[1] != name:
        raise Amiss(point.here())
    return ways_of(end)[side]


def jump_way(walk, point, label):
    """The way of the block's end, which is to be a jump: to the label, or, where that is None, to any."""
    end = take_end(walk, point)
    if walk.is_mended(point):
        return mended_way(walk, point, None, 0, label)
    if end[0] != "jump" or (label is not None and end[1] != label):
        raise Amiss(point.here())
    return ways_of(end)[0]


def led_to(walk, point, way):
    """The beginning of the block that the way leads to, all of whose pairs hold."""
    if not is_held(walk, point, way):
        raise Amiss(point.here())
    return Point(way[0], dict(walk.ground.pairs[way[0]]))


def walk_run(walk, point, item):
    name = take_steps(walk, point, item[1])
    if item[2] is not None:
        point.names[item[2]] = name
    return point


def walk_if(walk, point, item):
    name = take_steps(walk, point, item[1])
    first = walk_plan(walk, led_to(walk, point, branch_way(walk, point, name, 0)), item[2])
    second = walk_plan(walk, led_to(walk, point, branch_way(walk, point, name, 1)), item[3])
    if first is None:
        return second
    if second is None:
        return first
    return walk_join(walk, first, second)


def walk_join(walk, first, second):
    """Both parts jump to one and the same block; where one's end is mended, the other's tells which."""
    if walk.is_mended(first):
        first, second = second, first
    way = jump_way(walk, first, None)
    other = jump_way(walk, second, way[0])
    led_to(walk, second, other)
    return led_to(walk, first, way)


def walk_while(walk, point, item):
    head = led_to(walk, point, jump_way(walk, point, None))
    take_row(walk, head, "tick", None, ())
    name = take_steps(walk, head, item[1])
    last = walk_plan(walk, led_to(walk, head, branch_way(walk, head, name, 0)), item[2])
    if last is not None:
        led_to(walk, last, jump_way(walk, last, head.label))
    return led_to(walk, head, branch_way(walk, head, name, 1))


def walk_give(walk, point, item):
    name = take_steps(walk, point, item[1])
    want_taken(walk, point, take_end(walk, point), ("give", name))
    return None


def walk_fail(walk, point, item):
    want_taken(walk, point, take_end(walk, point), item)
    return None


WALKS = {"run": walk_run, "if": walk_if, "while": walk_while, "give": walk_give, "fail": walk_fail}


def walk_plan(walk, point, plan):
    """Walks the plan from that point on; tells the point that it comes to, None where it ends."""
    for item in plan:
        action = WALKS[item[0]]
        point = action(walk, point, item)
    return point


def walk_all(walk):
    """Walks the whole function; Amiss where it isn't as the paper wants it."""
    walk_plan(walk, Point(walk.ground.first, dict(walk.ground.known)), walk.ground.plan)
