"""A function's statements laid out in steps, as they are run, lowered and walked.

A step is (op, told, count): the count last values become one by the op, as by a row of the middle; by the op "var"
the value of the variable told is had. A plan is a tuple of:
- ("run", steps, variable): the steps' value is kept by the variable, or by none where it is None;
- ("if", steps, plan, plan), ("while", steps, plan), ("give", steps), ("fail", number).
"""

from passpapers.tables import Scope


def told_and_parts(scope, made):
    """What is told beside the op, and the Es that are had ahead of it."""
    op = made[0]
    if op == "call":
        return made[1], made[2:]
    if op == "new":
        return len(scope.records[made[1]]), ()
    if op in ("get", "set"):
        return scope.place_of_field(made[1], made[2]), (made[1],) + made[3:]
    return None, made[1:]


def steps_of(scope, made):
    """The steps of an E, or of an out, a set or a store."""
    if isinstance(made, int):
        return [("num", made, 0)]
    if made == "yes":
        return [("num", 1, 0)]
    if made == "no":
        return [("num", 0, 0)]
    if isinstance(made, str):
        return [("var", made, 0)]
    told, parts = told_and_parts(scope, made)
    steps = []
    for part in parts:
        steps.extend(steps_of(scope, part))
    steps.append((made[0], told, len(parts)))
    return steps


def planned(scope, statement):
    word = statement[0]
    if word in ("let", "put"):
        return ("run", steps_of(scope, statement[2]), statement[1])
    if word == "do":
        return ("run", steps_of(scope, statement[1]), None)
    if word == "if":
        parts = (all_planned(scope, statement[2]), all_planned(scope, statement[3]))
        return ("if", steps_of(scope, statement[1])) + parts
    if word == "while":
        return ("while", steps_of(scope, statement[1]), all_planned(scope, statement[2]))
    if word == "give":
        return ("give", steps_of(scope, statement[1]))
    if word == "fail":
        return statement
    return ("run", steps_of(scope, statement), None)


def all_planned(scope, statements):
    return tuple([planned(scope, statement) for statement in statements])


def plan_of(tree, fun):
    """The plan of a function of a right tree."""
    return all_planned(Scope(tree, fun), fun[4:])


def names_made(steps, names, made):
    """The name that the steps' value has: names tells the variables', and made(op, told, args) each row's.

    A variable for which nothing stands is named None.
    """
    stack = []
    for op, told, count in steps:
        if op == "var":
            stack.append(names.get(told))
        else:
            start = len(stack) - count
            args = tuple(stack[start:])
            del stack[start:]
            stack.append(made(op, told, args))
    return stack[-1]
