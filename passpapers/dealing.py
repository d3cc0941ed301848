"""Programs of the middle dealt to machines.

Each name has a slot of its own, where it needs one. At a block's beginning all names that are needed there are in
their slots; within the block values are kept in registers as long as there is room. So a name is saved only if it is
needed behind the block, or handed on in a call, or has to make room.
"""

from passpapers.bench import Bench, Slots
from passpapers.flow import labels_met
from passpapers.middle import block_of, param_names, used_by, ways_of
from passpapers.needs import needs_of
from passpapers.numbering import numbering_behind


class Dealing:
    """A function being dealt: what its blocks need, which slot is whose, and the blocks made and told so far."""

    def __init__(self, function, registers):
        self.function = function
        self.registers = registers
        self.needs = needs_of(function)
        self.slots = Slots(param_names(function[1]))
        self.labels = numbering_behind([block[0] for block in function[3]], [])
        self.made = []
        self.told = []

    def add_made(self, block, own, side, places):
        self.made.append(block)
        self.told.append((block[0], own, side, tuple(places)))


def deal(program, registers):
    """(outcome, paper): the program as a machine of so many registers."""
    dealt = [function_dealt(function, registers) for function in program]
    machine = (registers, tuple([made for made, told in dealt]))
    return machine, ("dealt", tuple([told for made, told in dealt]))


def function_dealt(function, registers):
    """The machine's function, and its part of the paper. Blocks to which no way leads are left out."""
    dealing = Dealing(function, registers)
    met = labels_met(function)
    for block in function[3]:
        if block[0] in met:
            deal_block(dealing, block)
    slots = len(dealing.slots.numbers)
    return (function[0], len(function[1]), slots, tuple(dealing.made)), tuple(dealing.told)


def args_needed(dealing, way):
    """(param, arg) for each param that is needed in the block that the way leads to."""
    label, args = way
    names = param_names(block_of(dealing.function, label)[1])
    return [(name, arg) for name, arg in zip(names, args) if name in dealing.needs[label]]


def args_handed(dealing, way):
    """(param, arg) for each needed param that isn't handed itself."""
    return [(param, arg) for param, arg in args_needed(dealing, way) if param != arg]


def names_lasting(dealing, label):
    """The names that are needed in the block of that label as they are: all but its params."""
    own = dict(block_of(dealing.function, label)[1])
    return [name for name in sorted(dealing.needs[label]) if name not in own]


def bench_for(dealing, block):
    """The bench at the block's beginning."""
    label, params, rows, end = block
    bench = Bench(dealing.registers, dealing.slots, dealing.needs[label])
    bench.note_uses(len(rows), used_by(end))
    for way in ways_of(end):
        bench.note_uses(len(rows), [arg for param, arg in args_handed(dealing, way)])
        bench.note_lasting(names_lasting(dealing, way[0]))
    for index in reversed(range(len(rows))):
        name, op, told, args = rows[index]
        if op == "call":
            bench.note_lasting(args)
        else:
            bench.note_uses(index, args)
    return bench


def deal_block(dealing, block):
    """Makes the machine's block, and, behind a branch, blocks for the ways by which something is handed on."""
    label, params, rows, end = block
    bench = bench_for(dealing, block)
    places = bench.places_of(sorted(dealing.needs[label]))
    for index, row in enumerate(rows):
        bench.deal_row(index, row)
    sources = tuple([bench.fetched(name, (name,)) for name in used_by(end)])
    ways = ways_of(end)
    labels = [way[0] for way in ways]
    if end[0] == "jump":
        bench.rows.extend(bench.rows_handing(args_handed(dealing, ways[0])))
    elif end[0] == "branch":
        labels = [label_between(dealing, way) for way in ways]
    made_end = end if end[0] == "fail" else end[:1] + sources + tuple(labels)
    dealing.add_made((label, tuple(bench.rows), made_end), label, -1, places)
    for side, way in enumerate(ways):
        if labels[side] != way[0]:
            add_between(dealing, bench, (label, side), labels[side], way)


def label_between(dealing, way):
    """The label of a block on that way, or that where it leads if nothing is handed on."""
    return way[0] if len(args_handed(dealing, way)) == 0 else dealing.labels.number_for(way[0])


def add_between(dealing, bench, behind, label, way):
    """Makes the block of that label on a way behind the bench's block; behind is (block, side)."""
    rows = bench.rows_handing(args_handed(dealing, way))
    names = names_lasting(dealing, way[0]) + [arg for param, arg in args_needed(dealing, way)]
    places = bench.places_of(sorted(set(names)))
    dealing.add_made((label, tuple(rows), ("jump", way[0])), behind[0], behind[1], places)
