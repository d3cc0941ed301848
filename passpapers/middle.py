"""Programs of the middle: what their functions, blocks and ends are made of.

A function is (name, params, kind, blocks), a block (label, params, rows, end), a row (name, op, told, args).
"""


def block_of(function, label):
    """The block of that label; None where there is none."""
    for block in function[3]:
        if block[0] == label:
            return block
    return None


def ways_of(end):
    """(label, args) of each way that the end leads, in order."""
    if end[0] == "jump":
        return [(end[1], end[2])]
    if end[0] == "branch":
        return [(end[2], end[3]), (end[4], end[5])]
    return []


def used_by(end):
    """The names that the end uses itself, beside its ways' arguments."""
    return (end[1],) if end[0] in ("branch", "give") else ()


def param_names(params):
    return [name for name, kind in params]


def row_names(rows):
    return [row[0] for row in rows]


def names_given(block):
    """The names that a block gives: its params' and its rows'."""
    return param_names(block[1]) + row_names(block[2])
