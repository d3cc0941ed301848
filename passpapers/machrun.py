"""Machines run. The calls under way are kept in a list, so they may be as deep as the bound lets."""

from passpapers.forms import LIST, NUMBER, RECORD, TAKES
from passpapers.machine import labels_led
from passpapers.runs import Ended, run_within, value_of


class Desk:
    """A call under way: its function's blocks, its block and the next row in it, and its registers and slots."""

    def __init__(self, parts, many, args):
        self.parts = parts
        self.registers = [0] * many
        # There may be thousands of slots and of calls within one another, so only those that were written are kept.
        self.slots = dict(enumerate(args))
        self.go_to(None)

    def go_to(self, label):
        """Goes to the beginning of the block of that label, or, where it is None, of the first one."""
        self.rows, self.end = self.parts[label]
        self.row_index = 0

    def in_slots(self, slots):
        return [self.slots.get(slot, 0) for slot in slots]

    def in_registers(self, sources):
        return [self.registers[source] for source in sources]

    def put(self, target, value):
        """The row under way gives that value."""
        if target is not None:
            self.registers[target] = value
        self.row_index += 1


def number_in(value):
    """The value where a number is wanted: a record or a list counts as 0."""
    return value if isinstance(value, int) else 0


def as_wanted(value, kind, told):
    """The value where such a kind is wanted."""
    if kind == NUMBER:
        return number_in(value)
    if kind == LIST and not isinstance(value, list):
        raise Ended("fault", "kind")
    if kind == RECORD and not (isinstance(value, dict) and told in value):
        raise Ended("fault", "kind")
    return value


def run_row(desk, run, row):
    """Runs a row other than a call."""
    op, told, target, sources = row
    values = desk.in_registers(sources)
    if op == "load":
        desk.put(target, desk.in_slots([told])[0])
    elif op == "save":
        desk.slots[told] = values[0]
        desk.put(None, None)
    elif op == "move":
        desk.put(target, values[0])
    else:
        args = [as_wanted(value, kind, told) for value, kind in zip(values, TAKES[op])]
        desk.put(target, value_of(run, op, told, args))


def run_end(desk):
    """Runs an end other than a give."""
    if desk.end[0] == "fail":
        raise Ended("fault", f"fail {desk.end[1]}")
    labels = labels_led(desk.end)
    second = desk.end[0] == "branch" and number_in(desk.registers[desk.end[1]]) == 0
    desk.go_to(labels[1 if second else 0])


def parts_of(function):
    """The rows and the end of each block by its label, and of the first one by None, too."""
    parts = {label: (rows, end) for label, rows, end in function[3]}
    parts[None] = function[3][0][1:]
    return parts


def answer_of(machine, inputs, run):
    many, functions = machine
    parts = {function[0]: parts_of(function) for function in functions}
    desks = [Desk(parts["main"], many, inputs)]
    while True:
        desk = desks[-1]
        run.work += 1
        if desk.row_index < len(desk.rows):
            row = desk.rows[desk.row_index]
            if row[0] == "call":
                run.count_tick()
                desks.append(Desk(parts[row[1]], many, desk.in_slots(row[3])))
            else:
                run_row(desk, run, row)
        elif desk.end[0] == "give":
            value = desk.registers[desk.end[1]]
            desks.pop()
            if len(desks) == 0:
                return number_in(value)
            caller = desks[-1]
            caller.put(caller.rows[caller.row_index][2], value)
        else:
            run_end(desk)


def machine_run(machine, inputs, bound):
    """(end, value, letters, work): how the machine's main, handed these inputs, runs within that bound of ticks."""
    return run_within(bound, lambda run: answer_of(machine, inputs, run))
