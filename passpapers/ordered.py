"""Whether a paper "ordered" tells in which order the rows of a machine's blocks stand, and nothing else is changed."""

from passpapers.forms import is_tuple_of
from passpapers.numbers import is_number
from passpapers.papers import NOWHERE, is_paper, machine_refused_at, odd_index, rows_wrong
from passpapers.places import place_written, places_read

# Rows that come to no fault and do nothing but give a value; of all others any two keep their order.
FREE = ("num", "copy", "not", "+", "-", "*", "<", "=", "and", "or", "load", "save", "move")


def ordered_wrong(before, after, paper):
    """None, or a place at which after isn't before with its rows ordered as this paper tells."""
    place = machine_refused_at(after)
    if place is not None:
        return place
    if not is_paper(paper, "ordered") or not is_tuple_of(paper[1], len(before[1])):
        return NOWHERE
    if before[0] != after[0] or len(before[1]) != len(after[1]):
        return NOWHERE
    for was, function, told in zip(before[1], after[1], paper[1]):
        place = function_wrong(was, function, told)
        if place is not None:
            return place
    return None


def function_wrong(was, function, told):
    if was[:3] != function[:3] or not is_tuple_of(told, len(was[3])):
        return (function[0], -1, -1)
    for block, there, order in zip(was[3], function[3], told):
        index = block_wrong(block, there, order)
        if index is not None:
            return (function[0], there[0], index)
    return None if len(was[3]) == len(function[3]) else (function[0], -1, -1)


def block_wrong(block, there, order):
    """The index of the row, or of the end, that isn't as wanted, -1 for what is neither; None where all is so."""
    label, rows, end = block
    if label != there[0] or not is_order(order, len(rows)):
        return -1
    index = rows_wrong([rows[number] for number in order], list(there[1]), end, there[2])
    return exchange_wrong(rows, order) if index is None else index


def is_order(order, count):
    """Whether order is a tuple of the numbers below count, each once."""
    if not is_tuple_of(order, count) or not all([is_number(number) for number in order]):
        return False
    return sorted(order) == list(range(count))


def exchange_wrong(rows, order):
    """The index of a row that stands ahead of one that it has to stand behind; None where there is none such.

    Where one row alone is out of its order, that is the one.
    """
    places = {number: index for index, number in enumerate(order)}
    found = []
    for number, ahead in enumerate(waits_of(rows)):
        if any([places[number] < places[other] for other in ahead]):
            found.append(number)
    if len(found) == 0:
        return None
    odd = odd_index(list(range(len(rows))), list(order))
    others = [number for number in order if number != order[odd]]
    return odd if others == sorted(others) else min([places[number] for number in found])


class Traces:
    """What the rows so far have left behind: who wrote a place last, who read it since, and the last row not free."""

    def __init__(self):
        self.writers = {}
        self.readers = {}
        self.last_fixed = []

    def ahead_of(self, row):
        """The numbers of the rows that the next one has to stand behind."""
        ahead = [self.writers[place] for place in places_read(row) if place in self.writers]
        target = place_written(row)
        if target in self.writers:
            ahead.append(self.writers[target])
        ahead.extend(self.readers.get(target, []))
        return ahead if row[0] in FREE else ahead + self.last_fixed

    def leave(self, number, row):
        for place in places_read(row):
            self.readers.setdefault(place, []).append(number)
        target = place_written(row)
        if target is not None:
            self.writers[target] = number
            self.readers[target] = []
        if row[0] not in FREE:
            self.last_fixed = [number]


def waits_of(rows):
    """For each row's number those of the rows ahead that it has to stand behind.

    Only the nearest ones are told: whatever else it has to stand behind, one of these has to stand behind.
    """
    traces = Traces()
    waits = []
    for number, row in enumerate(rows):
        waits.append(sorted(set(traces.ahead_of(row))))
        traces.leave(number, row)
    return waits
