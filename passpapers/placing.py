"""Calls put in place: copies of the called functions in their stead."""

from passpapers.errors import NoPass
from passpapers.middle import all_names, function_named
from passpapers.numbering import numbering_behind
from passpapers.pieces import MOST_BLOCKS, MOST_ROWS
from passpapers.placed import labels_of, names_copied, row_called_at, with_call_placed


def place_call(program, function, label, index):
    """(outcome, paper): the call row at that place put in place; NoPass where there is none of another function."""
    call = row_called_at(program, function, label, index)
    if call is None:
        raise NoPass("there is no call of another function")
    caller = function_named(program, function)
    called = function_named(program, call[2])
    names = numbering_behind(all_names(caller), names_copied(called))
    labels = numbering_behind(labels_of(caller), labels_of(called))
    name_pairs = tuple([(name, names.number_for(name)) for name in names_copied(called)])
    label_pairs = tuple([(led, labels.number_for(led)) for led in labels_of(called)])
    # The call's own name and its block's label are in use, so these two get others.
    tick = names.number_for(call[0])
    rest = labels.number_for(label)
    body = (function, label, index, tick, label_pairs, name_pairs, rest)
    return with_call_placed(program, body), ("placed", body)


def place_first(program):
    """(outcome, paper): the first call of another function that doesn't make too much put in place, or nothing."""
    for function in program:
        for label, params, rows, end in function[3]:
            for index, row in enumerate(rows):
                if row[1] == "call" and row[2] != function[0] and is_little(function, function_named(program, row[2])):
                    return place_call(program, function[0], label, index)
    return program, ("placed", ())


def is_little(caller, called):
    """Whether a call put in place doesn't make too many blocks or rows; a tick stands in the call's stead."""
    blocks = len(caller[3]) + len(called[3]) + 1
    return blocks <= MOST_BLOCKS and rows_of(caller) + rows_of(called) <= MOST_ROWS


def rows_of(function):
    return sum([len(block[2]) for block in function[3]])
