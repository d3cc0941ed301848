"""Machines with one row or one end other than it should be."""

from passpapers.errors import NoMachine
from passpapers.machine import look_at_machine

SUMS = ("+", "-", "*", "<", "=", "and", "or", "/", "rest")


def is_machine(machine):
    try:
        look_at_machine(machine)
    except NoMachine:
        return False
    return True


def with_part(machine, title, label, rows=None, end=None):
    """The machine with other rows, or another end, of that block."""
    def block(old):
        if old[0] != label:
            return old
        return (label, old[1] if rows is None else tuple(rows), old[2] if end is None else end)
    return (machine[0], tuple(function[:3] + (tuple(block(old) for old in function[3]),) if function[0] == title else function
                              for function in machine[1]))


def other_rows(chooser, machine, function, row):
    op, told, target, sources = row
    registers = [number for number in range(machine[0])]
    slots = [number for number in range(function[2])]
    if op in SUMS:
        yield (chooser.choice(SUMS), told, target, sources)
        yield (op, told, target, sources[::-1])
    if op == "num":
        yield (op, chooser.choice((0, 1, 3, told // 2)), target, sources)
    if op in ("get", "set"):
        yield (op, 1 - told if told < 2 else 0, target, sources)
    if op in ("load", "save") and slots:
        yield (op, chooser.choice(slots), target, sources)
    if op not in ("load", "save"):
        yield (op, told, chooser.choice(registers), sources)
        yield ("move", None, chooser.choice(registers), (chooser.choice(registers),))
        if op != "move":
            yield (op, told, None, sources)
    if op == "load":
        yield (op, told, chooser.choice(registers), sources)
    for at in range(len(sources)):
        yield (op, told, target, sources[:at] + (chooser.choice(slots if op == "call" else registers),) + sources[at + 1:])


def other_ends(chooser, machine, function, end):
    registers = [number for number in range(machine[0])]
    labels = [block[0] for block in function[3][1:]]
    if end[0] == "branch":
        yield ("branch", end[1], end[3], end[2])
        yield ("jump", end[2])
        yield ("jump", end[3])
    if end[0] in ("branch", "give"):
        yield end[:1] + (chooser.choice(registers),) + end[2:]
    if end[0] == "fail":
        yield ("fail", end[1] + 1)
    if labels and end[0] == "jump":
        yield ("jump", chooser.choice(labels))
    if labels and end[0] == "branch":
        yield end[:2] + (chooser.choice(labels), end[3])
        yield end[:3] + (chooser.choice(labels),)
    yield ("give", chooser.choice(registers))
    yield ("fail", 77)


def rows_too_many(chooser, machine, function, rows, index):
    registers = [number for number in range(machine[0])]
    yield ("num", 12345, chooser.choice(registers), ())
    yield ("move", None, chooser.choice(registers), (chooser.choice(registers),))
    if function[2] > 0:
        yield ("load", chooser.choice(range(function[2])), chooser.choice(registers), ())
        yield ("save", chooser.choice(range(function[2])), None, (chooser.choice(registers),))


def spoiled_machines(chooser, machine):
    """Right machines that differ from this one by one row or one end of one block, each with its place."""
    function = chooser.choice(machine[1])
    label, rows, end = chooser.choice(function[3])
    made = []
    for index, row in enumerate(rows):
        made += [(rows[:index] + (other,) + rows[index + 1:], end, index) for other in other_rows(chooser, machine, function, row) if other != row]
    for index in range(len(rows) + 1):
        made += [(rows[:index] + (row,) + rows[index:], end, index) for row in rows_too_many(chooser, machine, function, rows, index)]
    made += [(rows, other, len(rows)) for other in other_ends(chooser, machine, function, end) if other != end]
    machines = [(with_part(machine, function[0], label, rows, end), (function[0], label, index)) for rows, end, index in made]
    return [(other, place) for other, place in machines if is_machine(other)]
