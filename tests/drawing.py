"""Right programs of the middle drawn by a seed: ways of any shape, blocks to which none leads, any names and labels."""

import random

from passpapers.flow import above_of, labels_in_order
from passpapers.looks import look_at_middle
from passpapers.middle import names_given

SUMS = ("+", "-", "*", "/", "rest", "<", "=", "and", "or")
DRAWN = SUMS + ("+", "-", "*", "<", "=", "and", "or")
KINDS = (0, 0, 0, 0, -1, 2)


class Drawer:
    """Draws one function; heads are (params, kind) of all functions by name."""

    def __init__(self, chooser, title, heads, size):
        self.random = chooser
        self.title = title
        self.heads = heads
        self.names = iter(chooser.sample(range(5000), 1500))
        self.kinds = {}
        self.params = tuple((self.name(kind), kind) for kind in heads[title][0])
        self.many = chooser.randint(1, size)

    def choice(self, things):
        return self.random.choice(list(things))

    def name(self, kind):
        name = next(self.names)
        self.kinds[name] = kind
        return name

    def skeleton(self):
        """The blocks' labels, params, and ends without names."""
        labels = self.random.sample(range(300), self.many)
        blocks = []
        for at, label in enumerate(labels):
            kinds = [self.choice(KINDS) for k in range(self.random.choice((0, 0, 1, 2, 3)))] if at else []
            blocks.append((label, tuple((self.name(kind), kind) for kind in kinds), (), self.rough_end(at, labels)))
        return blocks

    def rough_end(self, at, labels):
        # Mostly onward, so that most blocks are come to.
        later = labels[at + 1:at + 4] or labels[1:]
        targets = [self.choice(later if self.random.random() < 0.7 else labels[1:]) for k in "ab"] if labels[1:] else []
        roll = self.random.random()
        if not targets or (at == len(labels) - 1 and roll < 0.7) or roll < 0.08:
            return ("give", None) if self.random.random() < 0.85 else ("fail", self.random.randint(-3, 3))
        if roll < 0.5:
            return ("jump", targets[0], ())
        return ("branch", None, targets[0], (), targets[1], ())

    def function(self):
        blocks = self.skeleton()
        rough = (self.title, self.params, 0, tuple(blocks))
        above = above_of(rough)
        by_label = {block[0]: block for block in blocks}
        places = {block[0]: at for at, block in enumerate(blocks)}
        ticked = {led for block in blocks for led in block[3][1:] + ()
                  if isinstance(led, int) and led in places and places[led] <= places[block[0]]}
        order = labels_in_order(rough) + [block[0] for block in blocks if block[0] not in above]
        made = {}
        for label in order:
            ahead = [name for name, kind in self.params]
            for lying in above.get(label, ()):
                ahead += names_given(made[lying])
            if label not in above:
                ahead = list(self.kinds)
            made[label] = self.block(by_label[label], ahead, label in ticked, by_label)
        return (self.title, self.params, self.heads[self.title][1], tuple(made[block[0]] for block in blocks))

    def block(self, block, ahead, is_ticked, by_label):
        label, params, rows, end = block
        visible = ahead + [name for name, kind in params]
        rows = []
        if is_ticked:
            rows.append((self.name(0), "tick", None, ()))
        for k in range(self.random.choice((0, 0, 1, 2, 3, 5))):
            self.add_row(rows, visible)
        return (label, params, self.fill(rows, visible, end, by_label), self.end)

    def fill(self, rows, visible, end, by_label):
        """The rows, and, as self.end, the end with names."""
        def args(led):
            return tuple(self.some(rows, visible, kind) for name, kind in by_label[led][1])
        if end[0] == "jump":
            self.end = ("jump", end[1], args(end[1]))
        elif end[0] == "branch":
            first, second = args(end[2]), args(end[4])
            self.end = ("branch", self.some(rows, visible, 0), end[2], first, end[4], second)
        else:
            self.end = end if end[0] == "fail" else ("give", self.some(rows, visible, self.heads[self.title][1]))
        return tuple(rows)

    def some(self, rows, visible, kind):
        """A name of that kind, with a row for it where there is none yet, or now and then."""
        there = [name for name in visible + [row[0] for row in rows] if self.kinds[name] == kind]
        if there and self.random.random() < 0.9:
            return self.choice(there[-6:] if self.random.random() < 0.6 else there)
        if kind == 0:
            return self.put(rows, 0, "num", self.choice((0, 1, 0, 1, 2, -1, 5)), ())
        if kind == -1:
            return self.put(rows, -1, "list", None, (self.put(rows, 0, "num", self.random.randint(0, 3), ()),))
        return self.put(rows, kind, "new", kind, ())

    def put(self, rows, kind, op, told, args):
        name = self.name(kind)
        rows.append((name, op, told, args))
        return name

    def add_row(self, rows, visible):
        def some(kind):
            return self.some(rows, visible, kind)
        like = [row for row in rows if row[1] in SUMS + ("long", "copy")]
        if like and self.random.random() < 0.2:
            row = self.choice(like)
            return self.put(rows, self.kinds[row[0]], *row[1:])
        op = self.choice(("num", "copy", "copy", "copy", "sum", "sum", "sum", "sum", "sum", "sum", "not", "not", "new", "get",
                          "get", "set", "set", "list", "long", "long", "at", "store", "out", "out", "out", "tick", "call"))
        if op == "num":
            return self.put(rows, 0, "num", self.choice((0, 1, 0, 1, 2, -1, 7, -32768, 32767)), ())
        if op == "copy":
            arg = some(self.choice(KINDS))
            return self.put(rows, self.kinds[arg], "copy", None, (arg,))
        if op == "sum":
            return self.put(rows, 0, self.choice(DRAWN), None, (some(0), some(0)))
        if op == "call":
            callee = self.choice(self.heads)
            params, kind = self.heads[callee]
            return self.put(rows, kind, "call", callee, tuple(some(other) for other in params))
        if op == "new":
            return self.put(rows, 2, "new", 2, ())
        takes = {"not": (0,), "get": (2,), "set": (2, 0), "list": (0,), "long": (-1,), "at": (-1, 0),
                 "store": (-1, 0, 0), "out": (0,), "tick": ()}[op]
        told = self.random.randint(0, 1) if op in ("get", "set") else None
        return self.put(rows, -1 if op == "list" else 0, op, told, tuple(some(kind) for kind in takes))


def drawn(seed, size=9):
    """A right program; a block to which no way leads may use names given behind the row."""
    chooser = random.Random(seed)
    titles = ["main"] + ["aid", "help"][:chooser.choice((0, 0, 1, 2))]
    heads = {title: ([0] * chooser.randint(0, 3), 0) if title == "main"
             else ([chooser.choice(KINDS) for k in range(chooser.randint(0, 3))], chooser.choice(KINDS)) for title in titles}
    chooser.shuffle(titles)
    program = tuple(Drawer(chooser, title, heads, size).function() for title in titles)
    look_at_middle(program)
    return program


def inputs_for(program, seed):
    main = [function for function in program if function[0] == "main"][0]
    chooser = random.Random(seed)
    return [chooser.choice((0, 1, 2, 3, 5, -3, 17, 32767, -32768)) for param in main[1]]
