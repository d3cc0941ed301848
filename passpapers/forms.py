"""The form of a program of the middle: all that is seen at a function, a block, a row or an end by itself."""

from passpapers.errors import NoMiddle
from passpapers.middle import param_names, row_names, ways_of
from passpapers.numbers import is_number, is_of_language
from passpapers.unlike import first_again
from passpapers.words import is_word

NUMBER = 0
LIST = -1
RECORD = "record"
ANY = "any"

# What each op but "call" takes.
TAKES = {
    "num": (), "copy": (ANY,), "not": (NUMBER,),
    "+": (NUMBER, NUMBER), "-": (NUMBER, NUMBER), "*": (NUMBER, NUMBER), "/": (NUMBER, NUMBER),
    "rest": (NUMBER, NUMBER), "<": (NUMBER, NUMBER), "=": (NUMBER, NUMBER), "and": (NUMBER, NUMBER),
    "or": (NUMBER, NUMBER), "new": (), "get": (RECORD,), "set": (RECORD, NUMBER), "list": (NUMBER,),
    "long": (LIST,), "at": (LIST, NUMBER), "store": (LIST, NUMBER, NUMBER), "out": (NUMBER,), "tick": (),
}

END_LENGTHS = {"jump": 3, "branch": 6, "give": 2, "fail": 2}


def want(so, why, place):
    if not so:
        raise NoMiddle(why, place)


def is_tuple_of(thing, count):
    return isinstance(thing, tuple) and len(thing) == count


def is_name(thing):
    """Whether thing may be a name or a label."""
    return is_number(thing) and thing >= 0


def are_names(thing):
    return isinstance(thing, tuple) and all([is_name(name) for name in thing])


def is_kind(thing):
    return is_number(thing) and -1 <= thing <= 4


def are_params(thing):
    if not isinstance(thing, tuple):
        return False
    return all([is_tuple_of(param, 2) and is_name(param[0]) and is_kind(param[1]) for param in thing])


def functions_wrong(functions):
    """(why, place) where these aren't a tuple of functions with unlike names, main among them; None where they are."""
    nowhere = ("", -1, -1)
    if not isinstance(functions, tuple) or not all([is_tuple_of(function, 4) for function in functions]):
        return ("functions are a tuple of tuples of four", nowhere)
    names = [function[0] for function in functions]
    if not all([isinstance(name, str) for name in names]):
        return ("a function's name is a word", nowhere)
    again = first_again(names)
    if again is not None:
        return ("two functions have one name", (names[again], -1, -1))
    return None if "main" in names else ("there is no main", nowhere)


def look_at_form(program):
    """None, or NoMiddle."""
    wrong = functions_wrong(program)
    if wrong is not None:
        raise NoMiddle(wrong[0], wrong[1])
    for function in program:
        look_at_function(function)
    counts = {function[0]: len(function[1]) for function in program}
    for function in program:
        look_at_uses(function, counts)


def look_at_function(function):
    name, params, kind, blocks = function
    here = (name, -1, -1)
    want(is_word(name), "a function's name is a word", here)
    want(are_params(params), "params are names with kinds", here)
    want(is_kind(kind), "a function has no such kind", here)
    want(isinstance(blocks, tuple) and len(blocks) > 0, "a function has a block, at least", here)
    if name == "main":
        want(kind == NUMBER, "main gives a number", here)
        want(all([param[1] == NUMBER for param in params]), "main has numbers alone", here)
    for block in blocks:
        want(is_tuple_of(block, 4) and is_name(block[0]), "a block has a label, params, rows and an end", here)
        look_at_block(name, block)
    again = first_again([block[0] for block in blocks])
    want(again is None, "two blocks have one label", here if again is None else (name, blocks[again][0], -1))
    want(len(blocks[0][1]) == 0, "the first block has no params of its own", (name, blocks[0][0], -1))
    look_at_names(function)


def look_at_block(name, block):
    label, params, rows, end = block
    want(are_params(params), "params are names with kinds", (name, label, -1))
    want(isinstance(rows, tuple), "rows are a tuple", (name, label, -1))
    for index, row in enumerate(rows):
        look_at_row(row, (name, label, index))
    want(is_end(end), "there is no such end", (name, label, len(rows)))


def look_at_row(row, place):
    want(is_tuple_of(row, 4), "a row has a name, an op, what is told, and args", place)
    name, op, told, args = row
    want(is_name(name), "a row's name is a number from 0 on", place)
    want(isinstance(op, str) and (op == "call" or op in TAKES), "there is no such op", place)
    want(is_told(op, told), "nothing such is told with this op", place)
    want(are_names(args), "args are names", place)
    want(op == "call" or len(args) == len(TAKES[op]), "too few args, or too many", place)


def is_told(op, told):
    if op == "num":
        return is_of_language(told)
    if op == "new":
        return is_number(told) and 1 <= told <= 4
    if op in ("get", "set"):
        return is_number(told) and 0 <= told <= 3
    if op == "call":
        return isinstance(told, str)
    return told is None


def word_of(end):
    """The word with which an end begins; None where it is no tuple that begins with one."""
    return end[0] if isinstance(end, tuple) and len(end) > 0 and isinstance(end[0], str) else None


def is_end(end):
    word = word_of(end)
    if word not in END_LENGTHS or len(end) != END_LENGTHS[word]:
        return False
    if word == "fail":
        return is_number(end[1])
    ways = ways_of(end)
    return is_name(end[1]) and all([is_name(label) and are_names(args) for label, args in ways])


def look_at_names(function):
    """Names are given once: a name that a param has already is wrong at the row, not at the param."""
    met = {}
    give_names(met, param_names(function[1]), (function[0], -1))
    for label, params, rows, end in function[3]:
        give_names(met, param_names(params), (function[0], label))
    for label, params, rows, end in function[3]:
        for index, name in enumerate(row_names(rows)):
            want(name not in met, "a name is given twice", (function[0], label, index))
            met[name] = True


def give_names(met, names, where):
    for name in names:
        want(name not in met, "a name is given twice", where + (-1,))
        met[name] = True


def look_at_uses(function, counts):
    """What rows call, and where ends lead, is there and takes so many arguments; counts are those of functions."""
    first = function[3][0][0]
    taken = {block[0]: len(block[1]) for block in function[3]}
    for label, params, rows, end in function[3]:
        for index, (name, op, told, args) in enumerate(rows):
            if op == "call":
                place = (function[0], label, index)
                want(told in counts, "there is no such function", place)
                want(counts[told] == len(args), "too few args, or too many", place)
        place = (function[0], label, len(rows))
        for led, args in ways_of(end):
            want(led in taken and led != first, "no end leads there", place)
            want(taken[led] == len(args), "too few args, or too many", place)
