"""Whether a thing is a tree: its form, and the kinds of its parts."""

from passpapers.errors import NoTree
from passpapers.numbers import is_of_language
from passpapers.tables import RESULTS
from passpapers.unlike import all_unlike
from passpapers.words import is_word

OWN_KINDS = ("number", "truth", "list")
MOST_FIELDS = 4
MOST_VARIABLES = 4

TAKES = {
    "+": ("number", "number"), "-": ("number", "number"), "*": ("number", "number"),
    "/": ("number", "number"), "rest": ("number", "number"), "<": ("number", "number"),
    "and": ("truth", "truth"), "or": ("truth", "truth"), "not": ("truth",),
    "list": ("number",), "long": ("list",), "at": ("list", "number"),
    "out": ("number",), "store": ("list", "number", "number"),
}

LENGTHS = {
    "let": 3, "put": 3, "if": 4, "while": 3, "out": 2, "give": 2, "fail": 2, "set": 4, "store": 4, "do": 2,
}


class Look:
    """What the statements of one function are looked at by."""

    def __init__(self, records, functions, fun):
        self.records = records
        self.functions = functions
        self.gives = fun[3]
        self.known = {name: True for name in fun[2][::2]}


def want(so, why):
    if not so:
        raise NoTree(why)


def is_name(thing):
    return is_word(thing) and thing not in ("yes", "no")


def is_headed(thing, word):
    return isinstance(thing, tuple) and len(thing) > 0 and thing[0] == word


def look_at_tree(thing):
    """None, or NoTree."""
    want(is_headed(thing, "program"), "a tree is a program")
    functions = [part for part in thing[1:] if is_headed(part, "fun")]
    records = thing[1:len(thing) - len(functions)]
    for record in records:
        look_at_record(record)
    want(all_unlike([record[1] for record in records]), "two records have one name")
    fields = {record[1]: record[2:] for record in records}
    for fun in functions:
        look_at_head(fun, fields)
    want(all_unlike([fun[1] for fun in functions]), "two functions have one name")
    heads = {fun[1]: fun for fun in functions}
    want("main" in heads, "there is no main")
    look_at_main(heads["main"])
    for fun in functions:
        look_at_body(Look(fields, heads, fun), fun)


def look_at_record(record):
    want(is_headed(record, "record"), "records stand first, then functions, and nothing else")
    want(3 <= len(record) <= 2 + MOST_FIELDS, "a record has a name and one to four fields")
    want(is_name(record[1]) and record[1] not in OWN_KINDS, "a record has no such name")
    want(all([is_name(field) for field in record[2:]]), "a field has no such name")
    want(all_unlike(record[2:]), "two fields have one name")


def is_kind(thing, records):
    return isinstance(thing, str) and (thing in OWN_KINDS or thing in records)


def look_at_head(fun, records):
    """A function's name, variables and kind."""
    want(len(fun) >= 4 and is_name(fun[1]), "a function has a name, variables and a kind")
    variables = fun[2]
    want(isinstance(variables, tuple) and len(variables) % 2 == 0, "variables are told with their kinds")
    want(len(variables) <= 2 * MOST_VARIABLES, "a function has at most four variables")
    want(all([is_name(name) for name in variables[::2]]), "a variable has no such name")
    want(all_unlike(variables[::2]), "two variables have one name")
    want(all([is_kind(kind, records) for kind in variables[1::2]]), "a variable has no such kind")
    want(is_kind(fun[3], records), "a function has no such kind")


def look_at_main(fun):
    want(fun[3] == "number", "main gives a number")
    want(all([kind == "number" for kind in fun[2][1::2]]), "main has numbers alone")


def look_at_body(look, fun):
    kinds = dict(zip(fun[2][::2], fun[2][1::2]))
    want(look_at_statements(look, fun[4:], kinds), "a function's last statement ends")


def look_at_statements(look, statements, around):
    """Whether these statements end; around are the kinds of the variables that may be used."""
    want(isinstance(statements, tuple), "statements are a tuple")
    kinds = dict(around)
    ended = False
    for statement in statements:
        want(not ended, "a statement stands behind one that ends")
        want(isinstance(statement, tuple) and len(statement) > 0, "a statement is a tuple")
        want(isinstance(statement[0], str) and statement[0] in STATEMENTS, "there is no such statement")
        want(len(statement) == LENGTHS[statement[0]], "a statement has too few parts, or too many")
        action = STATEMENTS[statement[0]]
        ended = action(look, statement, kinds)
    return ended


def look_at_let(look, statement, kinds):
    variable = statement[1]
    want(is_name(variable), "a variable has no such name")
    want(variable not in look.known, "a variable is let once in its function")
    kinds[variable] = kind_looked(look, statement[2], kinds)
    look.known[variable] = True
    return False


def look_at_put(look, statement, kinds):
    variable = statement[1]
    want(isinstance(variable, str) and variable in kinds, "there is no such variable here")
    look_at_parts(look, statement[2:], (kinds[variable],), kinds)
    return False


def look_at_if(look, statement, kinds):
    look_at_parts(look, (statement[1],), ("truth",), kinds)
    first = look_at_statements(look, statement[2], kinds)
    second = look_at_statements(look, statement[3], kinds)
    return first and second


def look_at_while(look, statement, kinds):
    look_at_parts(look, (statement[1],), ("truth",), kinds)
    look_at_statements(look, statement[2], kinds)
    return False


def look_at_give(look, statement, kinds):
    look_at_parts(look, statement[1:], (look.gives,), kinds)
    return True


def look_at_fail(look, statement, kinds):
    want(is_of_language(statement[1]), "a fail tells a number")
    return True


def look_at_set(look, statement, kinds):
    look_at_field(look, statement[1], statement[2], kinds)
    look_at_parts(look, statement[3:], ("number",), kinds)
    return False


def look_at_known(look, statement, kinds):
    look_at_parts(look, statement[1:], TAKES[statement[0]], kinds)
    return False


def look_at_do(look, statement, kinds):
    kind_looked(look, statement[1], kinds)
    return False


STATEMENTS = {
    "let": look_at_let, "put": look_at_put, "if": look_at_if, "while": look_at_while, "out": look_at_known,
    "give": look_at_give, "fail": look_at_fail, "set": look_at_set, "store": look_at_known, "do": look_at_do,
}


def kind_looked(look, e, kinds):
    """The kind of an E."""
    if isinstance(e, tuple):
        return kind_of_parts(look, e, kinds)
    if isinstance(e, str):
        if e in ("yes", "no"):
            return "truth"
        want(e in kinds, "there is no such variable here")
        return kinds[e]
    want(is_of_language(e), "this is no number of the language")
    return "number"


def kind_of_parts(look, e, kinds):
    want(len(e) > 0 and isinstance(e[0], str), "an E has a word ahead")
    if e[0] == "call":
        want(len(e) >= 2 and isinstance(e[1], str) and e[1] in look.functions, "there is no such function")
        fun = look.functions[e[1]]
        look_at_parts(look, e[2:], fun[2][1::2], kinds)
        return fun[3]
    if e[0] == "new":
        want(len(e) == 2 and isinstance(e[1], str) and e[1] in look.records, "there is no such record")
        return e[1]
    if e[0] == "get":
        want(len(e) == 3, "a get has a record and a field")
        look_at_field(look, e[1], e[2], kinds)
    elif e[0] == "=":
        want(len(e) == 3, "a sum has two parts")
        first = kind_looked(look, e[1], kinds)
        want(first in ("number", "truth"), "numbers and truths alone are compared")
        look_at_parts(look, e[2:], (first,), kinds)
    else:
        want(e[0] in TAKES and e[0] in RESULTS, "there is no such E")
        look_at_parts(look, e[1:], TAKES[e[0]], kinds)
    return RESULTS[e[0]]


def look_at_parts(look, parts, wanted, kinds):
    want(len(parts) == len(wanted), "too few parts, or too many")
    for part, kind in zip(parts, wanted):
        want(kind_looked(look, part, kinds) == kind, "a part of another kind than wanted")


def look_at_field(look, e, field, kinds):
    record = kind_looked(look, e, kinds)
    want(record in look.records and field in look.records[record], "there is no such field")
