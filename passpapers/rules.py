"""What facts tell of names, and what follows for a row from the facts of its args."""

from passpapers.middle import SUMS
from passpapers.numbers import reckoned


class Facts:
    """The facts of a function's names: which number a name is, which other name it is the same as."""

    def __init__(self):
        self.numbers = {}
        self.sames = {}

    def root_of(self, name):
        return self.sames.get(name, name)

    def number_of(self, name):
        """The number that the name is known as; None where it isn't. A name with a number has itself as its root."""
        return self.numbers.get(self.root_of(name))

    def are_alike(self, name, other):
        if self.root_of(name) == self.root_of(other):
            return True
        return self.number_of(name) is not None and self.number_of(name) == self.number_of(other)

    def are_all_alike(self, names, others):
        """Whether these names, as many as the others, are alike one by one."""
        return all([self.are_alike(name, other) for name, other in zip(names, others)])


def number_by_args(facts, op, args):
    """What a sum comes to that not all args have to be known for; None where that isn't told."""
    numbers = [facts.number_of(name) for name in args]
    if op in ("*", "and") and 0 in numbers:
        return 0
    if op in ("-", "<") and facts.are_alike(args[0], args[1]):
        return 0
    if op == "=" and facts.are_alike(args[0], args[1]):
        return 1
    if op == "or" and any([number is not None and number != 0 for number in numbers]):
        return 1
    return None


def number_by_row(facts, row):
    """The number that the row's name is by its op and args; None where that isn't known."""
    name, op, told, args = row
    if op == "num":
        return told
    if op == "copy":
        return facts.number_of(args[0])
    if op not in SUMS:
        return None
    numbers = [facts.number_of(arg) for arg in args]
    if None not in numbers:
        return reckoned(op, numbers)
    return number_by_args(facts, op, args)


def roots_by_row(facts, row):
    """The roots that the row's name may be told the same as, by its op and args."""
    name, op, told, args = row
    if op == "copy":
        return [facts.root_of(args[0])]
    # By which number the sum leaves its other arg as it is.
    neutral = {"+": 0, "*": 1, "-": 0, "/": 1}
    if op not in neutral:
        return []
    roots = []
    if facts.number_of(args[1]) == neutral[op]:
        roots.append(facts.root_of(args[0]))
    if op in ("+", "*") and facts.number_of(args[0]) == neutral[op]:
        roots.append(facts.root_of(args[1]))
    return roots


def is_likened(op):
    """Whether rows of that op, with args alike, give the same."""
    return op in SUMS or op == "long"


def are_rows_like(facts, row, other):
    return row[1] == other[1] and is_likened(row[1]) and facts.are_all_alike(row[3], other[3])
