"""Which names blocks need from their beginning on."""

from passpapers.flow import arrivals_of
from passpapers.middle import block_of, param_names, used_by, ways_of


def needs_of(function):
    """For each label the names that have to be there at its block's beginning, its own params among them.

    All rows count, whether their names are used or not; arguments count for params that are needed alone.
    """
    arrivals = arrivals_of(function)
    needs = {block[0]: {} for block in function[3]}
    waiting = [block[0] for block in function[3]]
    while len(waiting) > 0:
        label = waiting.pop()
        found = needed_at(function, block_of(function, label), needs)
        if len(found) > len(needs[label]):
            needs[label] = found
            waiting.extend([led for led, args in arrivals[label]])
    return needs


def needed_at(function, block, needs):
    """The names needed at the block's beginning, as far as it is known what is needed where its end leads."""
    found = {name: True for name in used_by(block[3])}
    for led, args in ways_of(block[3]):
        own = param_names(block_of(function, led)[1])
        found.update({arg: True for arg, name in zip(args, own) if name in needs[led]})
        found.update({name: True for name in needs[led] if name not in own})
    # From the last row to the first: in a block to which no way leads a name may be used ahead of its row.
    for row in block[2][::-1]:
        found.pop(row[0], None)
        found.update({arg: True for arg in row[3]})
    return found
