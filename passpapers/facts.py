"""Whether a paper "facts" tells what is known of a program's names, and the program is changed by that alone."""

from passpapers.flow import arrivals_of
from passpapers.forms import is_tuple_of
from passpapers.looks import Given, kinds_given
from passpapers.middle import SAFE, params_by_name, rows_by_name, used_by, ways_of
from passpapers.numbers import is_number
from passpapers.papers import blocks_wrong, each_wrong, rows_named_wrong
from passpapers.rules import Facts, are_rows_like, number_by_row, roots_by_row
from passpapers.unlike import all_unlike


def facts_wrong(before, after, paper):
    """None, or a place at which after isn't before by this paper."""
    heads = {function[0]: function for function in before}
    return each_wrong(before, after, paper, "facts",
                      lambda was, function, told: function_wrong(heads, was, function, told))


def function_wrong(heads, was, function, told):
    if not are_facts(told):
        return (was[0], -1, -1)
    place = blocks_wrong(was[3], function)
    if place is None:
        place = rows_named_wrong(was[3], function)
    if place is not None:
        return place
    source = Source(was, kinds_given(was, heads), told)
    for fact in told:
        place = fact_wrong(source, fact)
        if place is not None:
            return place
    for block, there in zip(was[3], function[3]):
        index = change_wrong(source.facts, block, there)
        if index is not None:
            return (was[0], block[0], index)
    return None


def are_facts(told):
    if not isinstance(told, tuple) or not all([is_fact(fact) for fact in told]):
        return False
    return all_unlike([name for name, what, which, rule in told])


def is_fact(fact):
    if not is_tuple_of(fact, 4) or not is_number(fact[0]) or not is_number(fact[2]):
        return False
    return fact[1] in ("is", "same") and fact[3] in ("row", "like", "way")


class Source:
    """The function that facts are told of, and what they tell."""

    def __init__(self, function, kinds, told):
        self.function_name = function[0]
        self.blocks = {block[0]: block for block in function[3]}
        self.rows = rows_by_name(function)
        self.params = params_by_name(function)
        self.arrivals = arrivals_of(function)
        self.given = Given(function)
        self.kinds = kinds
        self.facts = Facts()
        for name, what, which, rule in told:
            if what == "is":
                self.facts.numbers[name] = which
            else:
                self.facts.sames[name] = which

    def place_of_end(self, label):
        return (self.function_name, label, len(self.blocks[label][2]))


def fact_wrong(source, fact):
    """A place where the fact doesn't hold; None where it does."""
    name, what, which, rule = fact
    if name in source.rows:
        label, index, row = source.rows[name]
        so = rule != "way" and is_same_there(source, fact, label, index) and is_so_by_row(source, fact, row)
        return None if so else (source.function_name, label, index)
    if name not in source.params:
        return (source.function_name, -1, -1)
    label, index = source.params[name]
    if rule != "way" or not is_same_there(source, fact, label, 0):
        return (source.function_name, label, -1)
    for led, args in source.arrivals[label]:
        if not is_so_by_way(source, fact, label, args):
            return source.place_of_end(led)
    return None


def is_same_there(source, fact, label, index):
    """Whether the other name of a fact "same" may be told so of a name that is given there."""
    name, what, which, rule = fact
    if what == "is":
        return True
    if which in source.facts.sames or source.kinds.get(which) != source.kinds[name]:
        return False
    return source.given.is_ahead(which, label, index)


def is_so_by_row(source, fact, row):
    name, what, which, rule = fact
    if rule == "row" and what == "is":
        return number_by_row(source.facts, row) == which
    if rule == "row":
        return which in roots_by_row(source.facts, row)
    return what == "same" and which in source.rows and are_rows_like(source.facts, row, source.rows[which][2])


def is_so_by_way(source, fact, label, args):
    """Whether the fact of the block's param holds by a way with these args."""
    name, what, which, rule = fact
    arg = args[source.params[name][1]]
    if what == "is":
        return source.facts.number_of(arg) == which
    if which in source.params and source.params[which][0] == label:
        return source.facts.root_of(arg) == source.facts.root_of(args[source.params[which][1]])
    return source.facts.root_of(arg) == which


def change_wrong(facts, block, there):
    """The index of the row, or of the end, that isn't as facts let it become; None where all are."""
    for index, (row, other) in enumerate(zip(block[2], there[2])):
        if not may_row_become(facts, row, other):
            return index
    if not may_end_become(facts, block[3], there[3]):
        return len(there[2])
    return None


def may_row_become(facts, row, other):
    name, op, told, args = row
    if other[1:3] == (op, told) and facts.are_all_alike(args, other[3]):
        return True
    if other[1] == "num":
        return is_sure(facts, op, args) and facts.number_of(name) == other[2]
    if other[1] == "copy" and name in facts.sames:
        return other[3][0] != name and facts.root_of(other[3][0]) == facts.root_of(name)
    return False


def is_sure(facts, op, args):
    """Whether such a row comes to no fault and does nothing but give a value."""
    if op in ("/", "rest"):
        return facts.number_of(args[1]) not in (None, 0)
    return op in SAFE


def may_end_become(facts, end, other):
    if other[0] == end[0]:
        return is_end_alike(facts, end, other)
    if end[0] != "branch" or other[0] != "jump":
        return False
    number = facts.number_of(end[1])
    return number is not None and are_ways_alike(facts, [way_taken(end, number)], ways_of(other))


def way_taken(end, number):
    """The way that a branch by that number takes."""
    return ways_of(end)[1 if number == 0 else 0]


def is_end_alike(facts, end, other):
    if end[0] == "fail":
        return end == other
    return facts.are_all_alike(used_by(end), used_by(other)) and are_ways_alike(facts, ways_of(end), ways_of(other))


def are_ways_alike(facts, ways, others):
    for (label, args), (other, handed) in zip(ways, others):
        if label != other or not facts.are_all_alike(args, handed):
            return False
    return True
