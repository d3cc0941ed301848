"""Numbers of the language, and what its sums come to."""

LEAST = -32768
MOST = 32767
SPAN = 65536


def is_number(thing):
    """Whether thing is an int, and neither True nor False."""
    return isinstance(thing, int) and not isinstance(thing, bool)


def is_of_language(thing):
    return is_number(thing) and LEAST <= thing <= MOST


def wrapped(number):
    return (number - LEAST) % SPAN + LEAST


def as_number(truth):
    return 1 if truth else 0


def divided(op, first, second):
    if second == 0:
        return None
    quotient = first // second
    if op == "/":
        return wrapped(quotient)
    return first - quotient * second


def compared(op, first, second):
    if op == "<":
        return as_number(first < second)
    if op == "=":
        return as_number(first == second)
    if op == "and":
        return as_number(first != 0 and second != 0)
    return as_number(first != 0 or second != 0)


def reckoned(op, args):
    """What the sum op of these numbers comes to; None by 0."""
    first = args[0]
    if op == "not":
        return as_number(first == 0)
    second = args[1]
    if op == "+":
        return wrapped(first + second)
    if op == "-":
        return wrapped(first - second)
    if op == "*":
        return wrapped(first * second)
    if op in ("/", "rest"):
        return divided(op, first, second)
    return compared(op, first, second)
