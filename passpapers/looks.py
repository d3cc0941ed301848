"""Programs of the middle looked at.

The form is looked at first, then which names are given ahead, then kinds, then rings: in this order a row that isn't
right is found ahead of all that only uses its name.
"""

from passpapers.flow import above_of, leads_of
from passpapers.forms import ANY, LIST, NUMBER, RECORD, TAKES, look_at_form, want
from passpapers.middle import block_of, names_given, param_names, row_names, used_by, ways_of
from passpapers.rings import ring_end


def look_at_middle(program):
    """None, or NoMiddle."""
    look_at_form(program)
    for function in program:
        look_at_visible(function)
    heads = {function[0]: function for function in program}
    for function in program:
        look_at_kinds(function, heads)
    for function in program:
        look_at_rings(function)


def visible_ahead(function, label, index):
    """The names that are given ahead of that row, or of the end, sorted."""
    above = above_of(function)
    names = param_names(function[1])
    if label not in above:
        for block in function[3]:
            names.extend(names_given(block))
        return sorted(names)
    for lying in above[label]:
        names.extend(names_given(block_of(function, lying)))
    own = block_of(function, label)
    return sorted(names + param_names(own[1]) + row_names(own[2][:index]))


class Given:
    """Where each name of a function is given: in which block, ahead of which row."""

    def __init__(self, function):
        self.above = above_of(function)
        self.places = {name: None for name in param_names(function[1])}
        for label, params, rows, end in function[3]:
            for name in param_names(params):
                self.places[name] = (label, 0)
            for index, name in enumerate(row_names(rows)):
                self.places[name] = (label, index + 1)

    def is_ahead(self, name, label, index):
        if name not in self.places:
            return False
        place = self.places[name]
        if place is None or label not in self.above:
            return True
        if place[0] == label:
            return place[1] <= index
        return place[0] in self.above[label]


def look_at_visible(function):
    given = Given(function)
    for label, params, rows, end in function[3]:
        for index, row in enumerate(rows):
            ahead = [given.is_ahead(name, label, index) for name in row[3]]
            want(all(ahead), "a name isn't given ahead", (function[0], label, index))
        names = list(used_by(end))
        for led, args in ways_of(end):
            names.extend(args)
        ahead = [given.is_ahead(name, label, len(rows)) for name in names]
        want(all(ahead), "a name isn't given ahead", (function[0], label, len(rows)))


def kind_given(row, heads):
    """The kind of a row's name, for all ops but copy."""
    if row[1] == "new":
        return row[2]
    if row[1] == "list":
        return LIST
    if row[1] == "call":
        return heads[row[2]][2]
    return NUMBER


def look_at_copies(function):
    """Where each copy's value comes from in the end; refuses copies in a ring."""
    copied = {row[0]: row[3][0] for block in function[3] for row in block[2] if row[1] == "copy"}
    sources = {}
    for label, params, rows, end in function[3]:
        for index, row in enumerate(rows):
            if row[1] == "copy":
                met = {}
                name = row[3][0]
                while name in copied and name not in met:
                    met[name] = True
                    name = copied[name]
                want(row[0] not in met, "copies of one another alone", (function[0], label, index))
                sources[row[0]] = name
    return sources


def kinds_given(function, heads):
    """The kind of each name of the function."""
    sources = look_at_copies(function)
    kinds = dict(function[1])
    for label, params, rows, end in function[3]:
        kinds.update(dict(params))
        for row in rows:
            kinds[row[0]] = kind_given(row, heads)
    for name, source in sources.items():
        kinds[name] = kinds[source]
    return kinds


def is_of_kind(kind, wanted):
    if wanted == ANY:
        return True
    if wanted == RECORD:
        return kind > 0
    return kind == wanted


def are_of_kinds(args, wanted, kinds):
    return all([is_of_kind(kinds[name], kind) for name, kind in zip(args, wanted)])


def is_row_of_kinds(row, kinds, heads):
    name, op, told, args = row
    if op == "call":
        return are_of_kinds(args, [kind for param, kind in heads[told][1]], kinds)
    if not are_of_kinds(args, TAKES[op], kinds):
        return False
    return op not in ("get", "set") or told < kinds[args[0]]


def is_end_of_kinds(function, end, kinds):
    wanted = function[2] if end[0] == "give" else NUMBER
    if not are_of_kinds(used_by(end), (wanted,), kinds):
        return False
    for label, args in ways_of(end):
        if not are_of_kinds(args, [kind for param, kind in block_of(function, label)[1]], kinds):
            return False
    return True


def look_at_kinds(function, heads):
    kinds = kinds_given(function, heads)
    for label, params, rows, end in function[3]:
        for index, row in enumerate(rows):
            want(is_row_of_kinds(row, kinds, heads), "an arg of another kind", (function[0], label, index))
        want(is_end_of_kinds(function, end, kinds), "an arg of another kind", (function[0], label, len(rows)))


def is_counted(block):
    """Whether a tick or a call stands in the block."""
    return any([row[1] in ("tick", "call") for row in block[2]])


def look_at_rings(function):
    labels = [block[0] for block in function[3] if not is_counted(block)]
    label = ring_end(leads_of(function), labels)
    if label is not None:
        place = (function[0], label, len(block_of(function, label)[2]))
        want(False, "ends lead round without a tick or a call", place)
