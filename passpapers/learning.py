"""What can be known of the names of a function.

The blocks to which a way leads are gone through in order, again and again, until nothing changes. At first each param
is taken to be what the ways tell that have been come to, as if the others told the same; where these turn out to tell
otherwise, it is taken back. Nothing told in the end rests on what was taken back, for all is told anew each time.
"""

from passpapers.flow import arrivals_of, labels_in_order
from passpapers.looks import Given
from passpapers.middle import block_of, names_given, param_names
from passpapers.rules import Facts, is_likened, number_by_row, roots_by_row

# A param that still changes by then is taken as itself: so going through comes to an end.
PATIENCE = 12


class Learner:
    """What is taken to be known so far of a function's names."""

    def __init__(self, function, kinds):
        self.function = function
        self.kinds = kinds
        self.order = labels_in_order(function)
        self.arrivals = arrivals_of(function)
        self.given = Given(function)
        self.facts = Facts()
        self.come_to = {name: True for name in param_names(function[1])}
        for block in function[3]:
            if block[0] not in self.given.above:
                self.come_to.update({name: True for name in names_given(block)})
        self.plain = {}
        self.leaders = {}
        self.like_rows = {}

    def fact_of(self, name):
        return (self.facts.numbers.get(name), self.facts.sames.get(name))

    def take(self, name, fact):
        """Takes the name to be so: a number, a root, or neither."""
        self.come_to[name] = True
        self.facts.numbers.pop(name, None)
        self.facts.sames.pop(name, None)
        if fact[0] is not None:
            self.facts.numbers[name] = fact[0]
        elif fact[1] is not None:
            self.facts.sames[name] = fact[1]


def facts_of(function, kinds):
    """The facts of the function's names."""
    learner = Learner(function, kinds)
    times = 1
    while go_through(learner, times):
        times += 1
    learn_left_out(learner)
    return learner.facts


def go_through(learner, times):
    """Goes through all blocks to which a way leads; tells whether something changed."""
    learner.leaders = {}
    learner.like_rows = {}
    changed = False
    for label in learner.order:
        block = block_of(learner.function, label)
        handed = [args for led, args in learner.arrivals[label]]
        for index, (name, kind) in enumerate(block[1]):
            if name not in learner.plain:
                fact = fact_of_param(learner, label, name, [args[index] for args in handed])
                changed = learn_param(learner, name, fact, times) or changed
        for index, row in enumerate(block[2]):
            fact = fact_of_row(learner, row, label, index)
            changed = changed or fact != learner.fact_of(row[0])
            learner.take(row[0], fact)
    return changed


def learn_param(learner, name, fact, times):
    """Takes the param to be so; tells whether that is new."""
    old = learner.fact_of(name)
    if times > PATIENCE and fact != old:
        learner.plain[name] = True
        fact = (None, None)
    learner.take(name, fact)
    return fact != old


def fact_of_param(learner, label, name, handed):
    """What the ways tell of a param of the block of that label, by the names that they hand it.

    In order, one of these ways at least has been come to ahead of the block, so one name at least has, too.
    """
    facts = learner.facts
    came = [arg for arg in handed if arg in learner.come_to]
    numbers = [facts.number_of(arg) for arg in came]
    if numbers[0] is not None and numbers == numbers[:1] * len(numbers):
        return (numbers[0], None)
    # What it is handed of itself tells nothing.
    roots = [facts.root_of(arg) for arg in came if facts.root_of(arg) != name]
    if roots == roots[:1] * len(roots) and may_be_same(learner, name, roots[0], label, 0):
        return (None, roots[0])
    # Another param of the block, ahead of this one, is the same where each way hands both the same.
    roots = [facts.root_of(arg) if arg in learner.come_to else None for arg in handed]
    leader = learner.leaders.setdefault(("params", label, tuple(roots)), name)
    if may_be_same(learner, name, leader, label, 0):
        return (None, leader)
    return (None, None)


def may_be_same(learner, name, other, label, index):
    """Whether the name, given there, may be told the same as the other one."""
    if other in learner.facts.sames or learner.kinds[name] != learner.kinds[other]:
        return False
    return name != other and learner.given.is_ahead(other, label, index)


def fact_of_row(learner, row, label, index):
    number = number_by_row(learner.facts, row)
    if number is not None:
        return (number, None)
    for root in roots_by_row(learner.facts, row):
        if may_be_same(learner, row[0], root, label, index):
            return (None, root)
    if not is_likened(row[1]):
        return (None, None)
    leaders = learner.like_rows.setdefault(likeness(learner.facts, row), [])
    for leader in leaders:
        if may_be_same(learner, row[0], leader, label, index):
            return (None, leader)
    leaders.append(row[0])
    return (None, None)


def likeness(facts, row):
    """The same for two rows where these are of one op, with args alike."""
    numbers = [facts.number_of(arg) for arg in row[3]]
    roots = [facts.root_of(arg) if number is None else None for arg, number in zip(row[3], numbers)]
    return (row[1], tuple(numbers), tuple(roots))


def learn_left_out(learner):
    """Learns of rows in blocks to which no way leads.

    These may use names given behind them, so numbers are looked for until there are no more. Rows are told the same
    only where they are so to the letter, in one block: so the one that is told of never has such a fact itself.
    """
    blocks = [block for block in learner.function[3] if block[0] not in learner.given.above]
    rows = [row for block in blocks for row in block[2]]
    changed = True
    while changed:
        found = [(row[0], number_by_row(learner.facts, row)) for row in rows if row[0] not in learner.facts.numbers]
        found = [(name, number) for name, number in found if number is not None]
        learner.facts.numbers.update(dict(found))
        changed = len(found) > 0
    for block in blocks:
        leaders = {}
        for name, op, told, args in block[2]:
            if is_likened(op) and learner.facts.number_of(name) is None:
                leader = leaders.setdefault((op, args), name)
                if leader != name:
                    learner.facts.sames[name] = leader
