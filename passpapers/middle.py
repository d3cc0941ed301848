"""Programs of the middle: what their functions, blocks and ends are made of.

A function is (name, params, kind, blocks), a block (label, params, rows, end), a row (name, op, told, args).
"""

SUMS = ("+", "-", "*", "/", "rest", "<", "=", "and", "or", "not")
# What always gives a value, the same one for the same args, and does nothing else.
SAFE = ("num", "copy", "long", "not", "+", "-", "*", "<", "=", "and", "or")


def block_of(function, label):
    """The block of that label; None where there is none."""
    for block in function[3]:
        if block[0] == label:
            return block
    return None


def function_named(functions, name):
    """The function of that name; None where there is none."""
    for function in functions:
        if function[0] == name:
            return function
    return None


def ways_of(end):
    """(label, args) of each way that the end leads, in order."""
    if end[0] == "jump":
        return [(end[1], end[2])]
    if end[0] == "branch":
        return [(end[2], end[3]), (end[4], end[5])]
    return []


def used_by(end):
    """The names that the end uses itself, beside its ways' arguments."""
    return (end[1],) if end[0] in ("branch", "give") else ()


def end_with(end, names, ways):
    """The end with these instead of the names that it uses itself, and instead of its ways."""
    made = end if end[0] == "fail" else end[:1] + tuple(names)
    for way in ways:
        made += way
    return made


def param_names(params):
    return [name for name, kind in params]


def row_names(rows):
    return [row[0] for row in rows]


def names_given(block):
    """The names that a block gives: its params' and its rows'."""
    return param_names(block[1]) + row_names(block[2])


def all_names(function):
    """All names that the function gives."""
    names = {name: True for name in param_names(function[1])}
    for block in function[3]:
        names.update({name: True for name in names_given(block)})
    return names


def names_used(function):
    """All names that the function's rows and ends use."""
    used = {}
    for label, params, rows, end in function[3]:
        for row in rows:
            used.update({name: True for name in row[3]})
        used.update({name: True for name in used_by(end)})
        for led, args in ways_of(end):
            used.update({name: True for name in args})
    return used


def rows_by_name(function):
    """For each name that a row gives: (label, index, row)."""
    return {row[0]: (block[0], index, row) for block in function[3] for index, row in enumerate(block[2])}


def params_by_name(function):
    """For each name that a block's param gives: (label, index)."""
    return {name: (block[0], index) for block in function[3] for index, name in enumerate(param_names(block[1]))}
