"""What is known of names put in their rows' and ends' stead."""

from passpapers.flow import labels_met
from passpapers.learning import facts_of
from passpapers.looks import kinds_given
from passpapers.middle import end_with, rows_by_name, used_by, ways_of
from passpapers.rules import roots_by_row


def know(program):
    """(outcome, paper): numbers for names that are known, roots for names that are the same as others."""
    heads = {function[0]: function for function in program}
    known = [(function, facts_of(function, kinds_given(function, heads))) for function in program]
    outcome = tuple([function_known(function, facts) for function, facts in known])
    return outcome, ("facts", tuple([facts_told(function, facts) for function, facts in known]))


def facts_told(function, facts):
    """The facts as a paper tells them."""
    rows = rows_by_name(function)
    told = [(name, "is", number, "row" if name in rows else "way") for name, number in facts.numbers.items()]
    told.extend([(name, "same", root, rule_of(rows, facts, name, root)) for name, root in facts.sames.items()])
    return tuple(sorted(told))


def rule_of(rows, facts, name, root):
    if name not in rows:
        return "way"
    return "row" if root in roots_by_row(facts, rows[name][2]) else "like"


def function_known(function, facts):
    met = labels_met(function)
    blocks = [block_known(block, facts, block[0] in met) for block in function[3]]
    return function[:3] + (tuple(blocks),)


def block_known(block, facts, is_met):
    """The block with what is known. Where no way leads to it, args stay as they are: facts there are to the letter."""
    label, params, rows, end = block
    roots = dict(facts.sames) if is_met else {}
    return (label, params, tuple([row_known(row, facts, roots) for row in rows]), end_known(end, facts, roots))


def row_known(row, facts, roots):
    name, op, told, args = row
    number = facts.number_of(name)
    if number is not None:
        return (name, "num", number, ())
    if name in facts.sames:
        return (name, "copy", None, (facts.sames[name],))
    return (name, op, told, rooted(args, roots))


def rooted(names, roots):
    return tuple([roots.get(name, name) for name in names])


def end_known(end, facts, roots):
    ways = [(label, rooted(args, roots)) for label, args in ways_of(end)]
    number = facts.number_of(end[1]) if end[0] == "branch" else None
    if number is not None:
        return ("jump",) + ways[1 if number == 0 else 0]
    return end_with(end, rooted(used_by(end), roots), ways)
