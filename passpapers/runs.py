"""What runs of trees, of the middle and of machines have in common: ticks, letters, and what each op does.

A record is a dict of its fields' numbers, a list a list of its numbers; each is handed on as itself.
"""

from passpapers.numbers import reckoned

LONGEST = 16


class Ended(Exception):
    """A run comes to its end by a fault or by its bound."""

    def __init__(self, end, value):
        self.end = end
        self.value = value


class Run:
    """What a run has counted and let out so far."""

    def __init__(self, bound):
        self.bound = bound
        self.ticks = 0
        self.work = 0
        self.letters = []

    def count_tick(self):
        if self.ticks >= self.bound:
            raise Ended("more", None)
        self.ticks += 1


def value_kept(run, told, args):
    return told


def value_copied(run, told, args):
    return args[0]


def value_new(run, told, args):
    return {field: 0 for field in range(told)}


def value_got(run, told, args):
    return args[0][told]


def value_set(run, told, args):
    args[0][told] = args[1]
    return 0


def value_list(run, told, args):
    if not 0 <= args[0] <= LONGEST:
        raise Ended("fault", "size")
    return [0] * args[0]


def value_long(run, told, args):
    return len(args[0])


def want_place(numbers, place):
    if not 0 <= place < len(numbers):
        raise Ended("fault", "range")


def value_at(run, told, args):
    want_place(args[0], args[1])
    return args[0][args[1]]


def value_store(run, told, args):
    want_place(args[0], args[1])
    args[0][args[1]] = args[2]
    return 0


def value_out(run, told, args):
    run.letters.append(args[0])
    return 0


def value_tick(run, told, args):
    run.count_tick()
    return 0


VALUES = {
    "num": value_kept, "copy": value_copied, "new": value_new, "get": value_got, "set": value_set,
    "list": value_list, "long": value_long, "at": value_at, "store": value_store, "out": value_out,
    "tick": value_tick,
}


def value_of(run, op, told, args):
    """The value that an op other than "call" gives."""
    if op in VALUES:
        action = VALUES[op]
        return action(run, told, args)
    number = reckoned(op, args)
    if number is None:
        raise Ended("fault", "nought")
    return number


def run_within(bound, answered):
    """(end, value, letters, work) of a run within that bound of ticks whose answer answered(run) tells."""
    run = Run(bound)
    try:
        answer = answered(run)
    except Ended as e:
        return (e.end, e.value, tuple(run.letters), run.work)
    return ("answer", answer, tuple(run.letters), run.work)
