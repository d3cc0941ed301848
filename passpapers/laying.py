"""Functions laid out anew along paths of their blocks.

Each block of an outcome has at first a param for each name that is needed at its beginning. Those params are left out
again that are handed but one and the same thing by all ways. So it doesn't matter how often a block is copied, nor
which blocks come together where.
"""

from passpapers.flow import first_label
from passpapers.looks import kinds_given
from passpapers.middle import all_names, block_of, end_with, param_names, used_by, ways_of
from passpapers.needs import needs_of
from passpapers.numbering import Numbering
from passpapers.pieces import is_all_as_it_was, is_too_much


class Draft:
    """A block being laid out: what stands for names at its beginning, its rows, what its end uses and hands on.

    All is told in things: a thing is a number, one for each param and each row of the outcome.
    """

    def __init__(self, piece):
        self.piece = piece
        self.slots = {}
        self.rows = []
        self.used = []
        self.handed = []


class Layout:
    """A function being laid out: its drafts by keys, what each thing is a copy of, and what is put in the stead of
    params left out. The first things are the function's own params."""

    def __init__(self, function, pieces):
        self.function = function
        self.drafts = {piece.key: Draft(piece) for piece in pieces}
        self.needs = needs_of(function)
        self.origins = param_names(function[1])
        self.instead = {}

    def new_thing(self, name):
        self.origins.append(name)
        return len(self.origins) - 1

    def is_param(self, thing):
        """Whether that thing, which stands for a name at a block's beginning, is a param of this block."""
        return thing >= len(self.function[1]) and thing not in self.instead

    def in_stead_of(self, thing):
        while thing in self.instead:
            thing = self.instead[thing]
        return thing


def laid_out(program, pieces_for):
    """(outcome, paper): each function laid out in the pieces that pieces_for tells of it, or as it is."""
    heads = {function[0]: function for function in program}
    laid = []
    for function in program:
        pieces = pieces_for(function)
        if is_all_as_it_was(function, pieces) or is_too_much(function, pieces):
            laid.append((function, told_as_it_is(function)))
        else:
            laid.append(function_laid(function, kinds_given(function, heads), pieces))
    return tuple([function for function, told in laid]), ("ways", tuple([told for function, told in laid]))


def told_as_it_is(function):
    """The paper's part for a function that stays as it is."""
    needs = needs_of(function)
    return tuple([(block[0], (block[0],), tuple([(name, name) for name in sorted(needs[block[0]])]))
                  for block in function[3]])


def function_laid(function, kinds, pieces):
    """The function laid out in these pieces, and its part of the paper."""
    layout = Layout(function, pieces)
    begin_drafts(layout)
    for draft in list(layout.drafts.values()):
        fill_draft(layout, draft)
    leave_out_params(layout)
    names = names_of(layout)
    labels = labels_of(layout)
    blocks = []
    told = []
    for key, draft in layout.drafts.items():
        blocks.append(block_laid(layout, draft, names, labels, kinds))
        pairs = [(name, names[layout.in_stead_of(slot)]) for name, slot in draft.slots.items()]
        told.append((labels[key], draft.piece.path, tuple(pairs)))
    return function[:3] + (tuple(blocks),), tuple(told)


def begin_drafts(layout):
    """Finds the things that stand for names at each block's beginning; at the first they are the function's params."""
    own = {name: thing for thing, name in enumerate(layout.origins)}
    first = first_label(layout.function)
    for draft in list(layout.drafts.values()):
        label = draft.piece.path[0]
        for name in needed_in_order(layout, label):
            draft.slots[name] = own[name] if label == first else layout.new_thing(name)


def needed_in_order(layout, label):
    """The names needed at the block's beginning: its own params first."""
    own = param_names(block_of(layout.function, label)[1])
    needed = layout.needs[label]
    return [name for name in own if name in needed] + sorted([name for name in needed if name not in own])


def fill_draft(layout, draft):
    """Goes along the path."""
    standing = dict(draft.slots)
    path = draft.piece.path
    for place, label in enumerate(path):
        block = block_of(layout.function, label)
        if place > 0:
            # What isn't needed behind may stand for nothing.
            things = [standing.get(arg) for arg in args_along(layout, draft, standing, path[place - 1])]
            standing.update(dict(zip(param_names(block[1]), things)))
        for name, op, told, args in block[2]:
            thing = layout.new_thing(name)
            draft.rows.append((thing, op, told, [standing[arg] for arg in args]))
            standing[name] = thing
    end = block_of(layout.function, path[-1])[3]
    draft.used = [standing[name] for name in used_by(end)]
    draft.handed = [things_handed(layout, standing, label, args) for label, args in ways_of(end)]


def args_along(layout, draft, standing, label):
    """The arguments by which the block of that label goes on along the path: a branch by a number of this draft."""
    end = block_of(layout.function, label)[3]
    ways = ways_of(end)
    if end[0] == "jump":
        return ways[0][1]
    numbers = {row[0]: row[2] for row in draft.rows if row[1] == "num"}
    return ways[1 if numbers[standing[end[1]]] == 0 else 0][1]


def things_handed(layout, standing, label, args):
    """For each name needed at that block's beginning what a way with these args hands it."""
    handed = dict(zip(param_names(block_of(layout.function, label)[1]), args))
    return {name: standing[handed.get(name, name)] for name in layout.needs[label]}


def comings_of(layout):
    """For each thing that stands for a name at a block's beginning what it is handed by each way."""
    comings = {}
    for draft in layout.drafts.values():
        for key, handed in zip(draft.piece.next_keys, draft.handed):
            for name, slot in layout.drafts[key].slots.items():
                comings.setdefault(slot, []).append(handed[name])
    return comings


def leave_out_params(layout):
    """Leaves out params that are handed one thing alone, beside themselves, until there are none such."""
    comings = comings_of(layout)
    changed = True
    while changed:
        changed = False
        for slot, things in comings.items():
            if slot not in layout.instead:
                others = [layout.in_stead_of(thing) for thing in things]
                others = [thing for thing in others if thing != slot]
                if others == others[:1] * len(others):
                    layout.instead[slot] = others[0]
                    changed = True


def names_of(layout):
    """A name for each thing that stays: that of which it is a copy, where this is free."""
    numbering = Numbering(all_names(layout.function))
    names = {thing: numbering.number_for(name) for thing, name in enumerate(param_names(layout.function[1]))}
    for draft in layout.drafts.values():
        for row in draft.rows:
            names[row[0]] = numbering.number_for(layout.origins[row[0]])
    for draft in layout.drafts.values():
        for slot in draft.slots.values():
            if layout.is_param(slot):
                names[slot] = numbering.number_for(layout.origins[slot])
    return names


def labels_of(layout):
    numbering = Numbering([block[0] for block in layout.function[3]])
    return {key: numbering.number_for(key[0]) for key in layout.drafts}


def named(layout, names, things):
    return tuple([names[layout.in_stead_of(thing)] for thing in things])


def block_laid(layout, draft, names, labels, kinds):
    params = [(names[slot], kinds[name]) for name, slot in draft.slots.items() if layout.is_param(slot)]
    rows = [(names[thing], op, told, named(layout, names, args)) for thing, op, told, args in draft.rows]
    ways = []
    for key, handed in zip(draft.piece.next_keys, draft.handed):
        args = [handed[name] for name, slot in layout.drafts[key].slots.items() if layout.is_param(slot)]
        ways.append((labels[key], named(layout, names, args)))
    end = block_of(layout.function, draft.piece.path[-1])[3]
    return (labels[draft.piece.key], tuple(params), tuple(rows), end_with(end, named(layout, names, draft.used), ways))
