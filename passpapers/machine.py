"""Machines looked at.

A machine is (registers, functions), a function (name, count, slots, blocks), a block (label, rows, end), a row
(op, told, target, sources).
"""

from passpapers.errors import NoMachine
from passpapers.forms import TAKES, functions_wrong, is_name, is_told, is_tuple_of, word_of
from passpapers.numbers import is_number
from passpapers.rings import ring_end
from passpapers.unlike import first_again
from passpapers.words import is_word

LEAST_REGISTERS = 3
MOST_REGISTERS = 8
MOST_SLOTS = 10000
END_LENGTHS = {"jump": 2, "branch": 4, "give": 2, "fail": 2}


class Sizes:
    """What a function's rows may speak of: how many registers and slots, and how many arguments functions take."""

    def __init__(self, registers, slots, counts):
        self.registers = registers
        self.slots = slots
        self.counts = counts


def want(so, why, place):
    if not so:
        raise NoMachine(why, place)


def is_below(thing, count):
    """Whether thing is a number from 0 on, below that one."""
    return is_number(thing) and 0 <= thing < count


def labels_led(end):
    """The labels that the end leads to, in order."""
    if end[0] == "jump":
        return [end[1]]
    return list(end[2:]) if end[0] == "branch" else []


def look_at_machine(machine):
    """None, or NoMachine."""
    nowhere = ("", -1, -1)
    want(is_tuple_of(machine, 2), "a machine has registers and functions", nowhere)
    registers, functions = machine
    want(is_number(registers) and LEAST_REGISTERS <= registers <= MOST_REGISTERS, "3 to 8 registers", nowhere)
    wrong = functions_wrong(functions)
    if wrong is not None:
        raise NoMachine(wrong[0], wrong[1])
    for function in functions:
        look_at_head(function)
    counts = {function[0]: function[1] for function in functions}
    for function in functions:
        look_at_rows(function, Sizes(registers, function[2], counts))
    for function in functions:
        look_at_rings(function)


def look_at_head(function):
    name, count, slots, blocks = function
    here = (name, -1, -1)
    want(is_word(name), "a function's name is a word", here)
    want(is_below(slots, MOST_SLOTS + 1), "so many slots there can't be", here)
    want(is_below(count, slots + 1), "arguments are in the first slots", here)
    want(isinstance(blocks, tuple) and len(blocks) > 0, "a function has a block, at least", here)
    for block in blocks:
        want(is_tuple_of(block, 3) and is_name(block[0]), "a block has a label, rows and an end", here)
        want(isinstance(block[1], tuple), "rows are a tuple", (name, block[0], -1))
    again = first_again([block[0] for block in blocks])
    want(again is None, "two blocks have one label", here if again is None else (name, blocks[again][0], -1))


def look_at_rows(function, sizes):
    labels = {block[0]: True for block in function[3]}
    for label, rows, end in function[3]:
        for index, row in enumerate(rows):
            want(is_row(row, sizes), "there is no such row", (function[0], label, index))
        want(is_end(end, sizes, labels), "there is no such end", (function[0], label, len(rows)))


def is_row(row, sizes):
    if not is_tuple_of(row, 4) or not isinstance(row[0], str) or not isinstance(row[3], tuple):
        return False
    op, told, target, sources = row
    if op == "load":
        return is_below(told, sizes.slots) and is_below(target, sizes.registers) and sources == ()
    if op == "save":
        return is_below(told, sizes.slots) and target is None and are_below(sources, sizes.registers, 1)
    if op == "move":
        return told is None and is_below(target, sizes.registers) and are_below(sources, sizes.registers, 1)
    if target is not None and not is_below(target, sizes.registers):
        return False
    if op == "call":
        return is_told(op, told) and told in sizes.counts and are_below(sources, sizes.slots, sizes.counts[told])
    return op in TAKES and is_told(op, told) and are_below(sources, sizes.registers, len(TAKES[op]))


def are_below(things, count, many):
    """Whether these are so many numbers from 0 on, each below that count."""
    return len(things) == many and all([is_below(thing, count) for thing in things])


def is_end(end, sizes, labels):
    word = word_of(end)
    if word not in END_LENGTHS or len(end) != END_LENGTHS[word]:
        return False
    if word == "fail":
        return is_number(end[1])
    if word != "jump" and not is_below(end[1], sizes.registers):
        return False
    return all([is_name(label) and label in labels for label in labels_led(end)])


def look_at_rings(function):
    counts = {label: len(rows) for label, rows, end in function[3]}
    leads = {label: labels_led(end) for label, rows, end in function[3]}
    plain = [label for label, rows, end in function[3] if not any([row[0] in ("tick", "call") for row in rows])]
    label = ring_end(leads, plain)
    if label is not None:
        want(False, "ends lead round without a tick or a call", (function[0], label, counts[label]))
