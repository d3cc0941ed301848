"""Whether a paper "placed" tells how a call became a copy of what it calls, and nothing else is changed."""

from passpapers.forms import is_tuple_of
from passpapers.middle import block_of, end_with, function_named, names_given, param_names, used_by, ways_of
from passpapers.numbers import is_number
from passpapers.papers import are_pairs, made_wrong


def placed_wrong(before, after, paper):
    """None, or a place at which after isn't before with a call put in place as this paper tells."""
    return made_wrong(before, after, paper, "placed", placed_as_told)


def placed_as_told(program, body):
    """The program with the call that body tells put in place; None where it tells none."""
    return with_call_placed(program, body) if is_told_right(program, body) else None


def row_called_at(program, name, label, index):
    """The row of another function's call at that place; None where there is none such."""
    function = function_named(program, name)
    block = None if function is None else block_of(function, label)
    if block is None or not is_number(index) or not 0 <= index < len(block[2]):
        return None
    row = block[2][index]
    return row if row[1] == "call" and row[2] != name else None


def is_told_right(before, body):
    """Whether body tells a call, with a label and a name for each one of the called function's, each once."""
    if not is_tuple_of(body, 7):
        return False
    name, label, index, tick, labels, names, rest = body
    if not isinstance(name, str) or not all([is_number(number) for number in (label, index, tick, rest)]):
        return False
    row = row_called_at(before, name, label, index)
    if row is None or not are_pairs(labels) or not are_pairs(names):
        return False
    called = function_named(before, row[2])
    return firsts(labels) == sorted(labels_of(called)) and firsts(names) == sorted(names_copied(called))


def firsts(pairs):
    return sorted([first for first, second in pairs])


def labels_of(function):
    return [block[0] for block in function[3]]


def names_copied(function):
    """The names that a copy of the function needs other ones for: all but its params."""
    return [name for block in function[3] for name in names_given(block)]


def with_call_placed(program, body):
    """The program with the call that body tells put in place so."""
    made = []
    for function in program:
        blocks = function[3]
        if function[0] == body[0]:
            blocks = []
            for block in function[3]:
                blocks.extend(blocks_for_call(program, block, body) if block[0] == body[1] else [block])
        made.append(function[:3] + (tuple(blocks),))
    return tuple(made)


def blocks_for_call(program, block, body):
    """The blocks in the stead of the one with the call."""
    name, label, index, tick, labels, names, rest = body
    call = block[2][index]
    called = function_named(program, call[2])
    new_labels = dict(labels)
    standing = dict(names)
    standing.update(dict(zip(param_names(called[1]), call[3])))
    ahead = block[2][:index] + ((tick, "tick", None, ()),)
    first = (label, block[1], ahead, ("jump", new_labels[called[3][0][0]], ()))
    copies = [block_copied(copied, new_labels, standing, rest) for copied in called[3]]
    return [first] + copies + [(rest, ((call[0], called[2]),), block[2][index + 1:], block[3])]


def block_copied(block, labels, standing, rest):
    """The block with these labels and names in the stead of its own, a give being a jump to rest."""
    label, params, rows, end = block
    new_params = tuple([(standing[name], kind) for name, kind in params])
    new_rows = tuple([(standing[name], op, told, renamed(args, standing)) for name, op, told, args in rows])
    used = renamed(used_by(end), standing)
    if end[0] == "give":
        new_end = ("jump", rest, used)
    else:
        new_end = end_with(end, used, [(labels[led], renamed(args, standing)) for led, args in ways_of(end)])
    return (labels[label], new_params, new_rows, new_end)


def renamed(names, standing):
    return tuple([standing[name] for name in names])
