"""Programs with one row or one end other than it should be, and small helps for tests of checkers."""

import unittest

from passpapers.errors import NoMiddle
from passpapers.looks import kinds_given, look_at_middle, visible_ahead
from passpapers.middle import block_of, used_by, ways_of

SUMS = ("+", "-", "*", "<", "=", "and", "or", "/", "rest")

# What is no paper, whatever it should tell of a program.
NO_PAPERS = (
    None, (), 0, "", "facts", [], ("facts",), ("dropped",), ("moved",), ("ways",), ("lowered", ()), ("other", ()), (0, ()),
    ("facts", None), ("dropped", None), ("moved", None), ("ways", None), ("facts", 0), ("facts", "main"), ("moved", []),
    ("facts", (), ()), ("moved", (), ()), ("ways", (), ()), ("dropped", ((), ()), ()), ("dropped", ()), ("dropped", ((),)),
)


def main_of(*blocks, params=((0, 0), (90, 0))):
    return (("main", params, 0, blocks),)


def is_looked_at(program):
    try:
        look_at_middle(program)
    except NoMiddle:
        return False
    return True


def with_block(program, label, title="main", **parts):
    """The program with other params, rows or end of that block."""
    def block(old):
        if old[0] != label:
            return old
        return (old[0], parts.get("params", old[1]), tuple(parts.get("rows", old[2])), parts.get("end", old[3]))
    return tuple(function[:3] + (tuple(block(old) for old in function[3]),) if function[0] == title else function
                 for function in program)


def all_uses(function):
    """All names that the function's rows and ends use."""
    uses = []
    for label, params, rows, end in function[3]:
        uses += [arg for row in rows for arg in row[3]] + list(used_by(end)) + [arg for led, args in ways_of(end) for arg in args]
    return uses


class Spoiler:
    """Spoils one block of one function."""

    def __init__(self, chooser, program):
        self.random = chooser
        self.program = program
        self.function = chooser.choice(program)
        self.block = chooser.choice(self.function[3])
        self.kinds = kinds_given(self.function, {function[0]: function for function in program})
        self.fresh = max([0] + list(self.kinds)) + 1
        self.uses = all_uses(self.function)

    def visible(self, index, kind):
        return [name for name in visible_ahead(self.function, self.block[0], index) if self.kinds[name] == kind]

    def other_rows(self, index):
        name, op, told, args = self.block[2][index]
        numbers = self.visible(index, 0)
        if op in SUMS:
            yield (name, self.random.choice(SUMS), told, args)
            yield (name, op, told, args[::-1])
        if op == "num":
            yield (name, op, self.random.choice((0, 1, 3, told // 2)), args)
        if op in ("get", "set"):
            yield (name, op, 1 - told if told < 2 else 0, args)
        if self.kinds[name] == 0 and op not in ("tick", "call"):
            yield (name, "num", self.random.choice((0, 1, 2)), ())
            if numbers:
                yield (name, "copy", None, (self.random.choice(numbers),))
        for at, arg in enumerate(args):
            yield (name, op, told, args[:at] + (self.random.choice(self.visible(index, self.kinds[arg])),) + args[at + 1:])
        if name not in self.uses:
            yield (self.fresh, op, told, args)

    def other_ends(self):
        end, last = self.block[3], len(self.block[2])
        if end[0] == "branch":
            yield ("branch", end[1]) + end[4:6] + end[2:4]
            yield ("jump",) + end[2:4]
            yield ("jump",) + end[4:6]
            yield ("branch", self.random.choice(self.visible(last, 0))) + end[2:]
        if end[0] == "give":
            yield ("give", self.random.choice(self.visible(last, self.function[2])))
            yield ("fail", 3)
        if end[0] == "fail":
            yield ("fail", end[1] + 1)
        for at, (label, args) in enumerate(ways_of(end)):
            for place, arg in enumerate(args):
                other = self.random.choice(self.visible(last, self.kinds[arg]))
                handed = args[:place] + (other,) + args[place + 1:]
                yield end[:2] + (handed,) if end[0] == "jump" else end[:3 + 2 * at] + (handed,) + end[4 + 2 * at:]
        for label in [block[0] for block in self.function[3][1:]]:
            kinds = [kind for name, kind in block_of(self.function, label)[1]]
            if all(self.visible(last, kind) for kind in kinds):
                yield ("jump", label, tuple(self.random.choice(self.visible(last, kind)) for kind in kinds))

    def rows_too_many(self, index):
        rows = self.block[2]
        like = [(self.fresh, "num", 12345, ())] + [(self.fresh,) + row[1:] for row in rows[max(0, index - 1):index + 1]]
        for row in like:
            # Ahead of one like it, a row is the one too many only where the other's name is used.
            if index == len(rows) or rows[index][1:] != row[1:] or rows[index][0] in self.uses:
                yield row

    def spoiled(self):
        title, (label, params, rows, end) = self.function[0], self.block
        for index in range(len(rows)):
            for row in self.other_rows(index):
                if row != rows[index]:
                    yield with_block(self.program, label, title, rows=rows[:index] + (row,) + rows[index + 1:]), index
        for index in range(len(rows) + 1):
            for row in self.rows_too_many(index):
                yield with_block(self.program, label, title, rows=rows[:index] + (row,) + rows[index:]), index
        for other in self.other_ends():
            if other != end:
                yield with_block(self.program, label, title, end=other), len(rows)


def spoiled(chooser, program):
    """Right programs that differ from this one by one row or one end of one block, each with its place."""
    spoiler = Spoiler(chooser, program)
    return [(other, (spoiler.function[0], spoiler.block[0], index)) for other, index in spoiler.spoiled()
            if is_looked_at(other)]


def parts_within(thing, path=()):
    """The paths to all parts of a thing of tuples, itself among them."""
    paths = [path]
    if isinstance(thing, tuple):
        for at, part in enumerate(thing):
            paths += parts_within(part, path + (at,))
    return paths


def with_part_at(thing, path, part):
    if not path:
        return part
    return thing[:path[0]] + (with_part_at(thing[path[0]], path[1:], part),) + thing[path[0] + 1:]


def part_at(thing, path):
    for at in path:
        thing = thing[at]
    return thing


def changed(chooser, paper):
    """The paper with one part, anywhere within, other than it was: another one of its parts, left out, or put twice."""
    paths = parts_within(paper)
    path = chooser.choice(paths)
    part = part_at(paper, path)
    roll = chooser.random()
    if isinstance(part, tuple) and part and roll < 0.3:
        at = chooser.randrange(len(part))
        return with_part_at(paper, path, part[:at] + part[at + 1:] if roll < 0.15 else part[:at] + part[at:at + 1] + part[at:])
    if isinstance(part, int) and roll < 0.5:
        return with_part_at(paper, path, part + chooser.choice((-2, -1, 1, 2)))
    return with_part_at(paper, path, part_at(paper, chooser.choice(paths)))


class Checking(unittest.TestCase):
    """Tests of a checker, which subclasses set as a plain function in a tuple."""

    checkers = ()

    def let_by(self, before, after, paper):
        self.assertIsNone(look_at_middle(before))
        self.assertIsNone(self.checkers[0](before, after, paper))

    def wrong(self, before, after, paper, place=None):
        self.assertIsNone(look_at_middle(before))
        told = self.checkers[0](before, after, paper)
        self.assertIsNotNone(told)
        self.assertEqual([tuple, str, int, int], [type(told)] + [type(part) for part in told])
        if place is not None:
            self.assertEqual(place, told)
