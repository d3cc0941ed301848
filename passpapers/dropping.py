"""All left out of a program that nothing wants."""

from passpapers.dropped import blocks_left, may_be_dropped
from passpapers.flow import arrivals_of, labels_met
from passpapers.middle import param_names, params_by_name, rows_by_name, used_by


def drop(program):
    """(outcome, paper): the program without functions, blocks, rows and params that aren't wanted."""
    wanted = functions_wanted(program)
    staying = [function for function in program if function[0] in wanted]
    body = tuple([left_out_of(function) for function in staying])
    outcome = [function[:3] + (tuple(blocks_left(function, labels, names)),)
               for function, (labels, names) in zip(staying, body)]
    functions = tuple([function[0] for function in program if function[0] not in wanted])
    return tuple(outcome), ("dropped", (functions, body))


def functions_wanted(program):
    """main, what it calls in blocks to which a way leads, what these call, and so on."""
    calls = {}
    for function in program:
        rows = [row for block in blocks_met(function) for row in block[2]]
        calls[function[0]] = [row[2] for row in rows if row[1] == "call"]
    wanted = {}
    waiting = ["main"]
    while len(waiting) > 0:
        name = waiting.pop()
        if name not in wanted:
            wanted[name] = True
            waiting.extend(calls[name])
    return wanted


def blocks_met(function):
    met = labels_met(function)
    return [block for block in function[3] if block[0] in met]


def left_out_of(function):
    """(labels, names) of what is left out of a function that stays."""
    blocks = blocks_met(function)
    wanted = names_wanted(function, blocks)
    names = []
    for block in blocks:
        names.extend([name for name in param_names(block[1]) if name not in wanted])
        names.extend([row[0] for row in block[2] if row[0] not in wanted and may_be_dropped(row)])
    met = [block[0] for block in blocks]
    return tuple([block[0] for block in function[3] if block[0] not in met]), tuple(names)


def names_wanted(function, blocks):
    """The names used by ends, by rows that have to stay, and by what gives such names."""
    rows = rows_by_name(function)
    params = params_by_name(function)
    arrivals = arrivals_of(function)
    met = [block[0] for block in blocks]
    wanted = {}
    waiting = []
    for block in blocks:
        waiting.extend(used_by(block[3]))
        for row in block[2]:
            if not may_be_dropped(row):
                waiting.extend(row[3])
    while len(waiting) > 0:
        name = waiting.pop()
        if name not in wanted:
            wanted[name] = True
            if name in rows:
                waiting.extend(rows[name][2][3])
            elif name in params:
                label, index = params[name]
                waiting.extend([args[index] for led, args in arrivals[label] if led in met])
    return wanted
