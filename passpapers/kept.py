"""Whether a paper "kept" tells how a record's fields became names, and nothing else is changed."""

from passpapers.forms import NUMBER, is_tuple_of
from passpapers.middle import block_of, end_with, function_named, rows_by_name, used_by, ways_of
from passpapers.numbers import is_number
from passpapers.papers import made_wrong
from passpapers.unlike import all_unlike


class Unknown(Exception):
    """The fields aren't known where they have to be: at that row, or at that end, of the block."""

    def __init__(self, label, index):
        self.label = label
        self.index = index


class Record:
    """A record that is kept in names: the name of its "new" row, its count of fields, and the names in told blocks."""

    def __init__(self, name, count, blocks):
        self.name = name
        self.count = count
        self.told = dict(blocks)


def kept_wrong(before, after, paper):
    """None, or a place at which after isn't before with a record kept in names as this paper tells."""
    try:
        return made_wrong(before, after, paper, "kept", kept_as_told)
    except Unknown as e:
        return (paper[1][0], e.label, e.index)


def kept_as_told(program, body):
    """The program with the record that body tells kept in names; None where it tells none."""
    return with_record_kept(program, body) if is_told_right(program, body) else None


def is_told_right(before, body):
    """Whether body tells a record that may be kept, and blocks with as many names as it has fields."""
    if not is_tuple_of(body, 3) or not isinstance(body[0], str) or not is_number(body[1]):
        return False
    function = function_named(before, body[0])
    count = None if function is None else fields_of(function, body[1])
    if count is None or not is_used_as_record(function, body[1]):
        return False
    if not isinstance(body[2], tuple) or not all([is_told_block(function, count, told) for told in body[2]]):
        return False
    return all_unlike([label for label, names in body[2]])


def fields_of(function, name):
    """How many fields the record has that the "new" row of that name makes; None where there is no such row."""
    rows = rows_by_name(function)
    if name not in rows or rows[name][2][1] != "new":
        return None
    return rows[name][2][2]


def is_used_as_record(function, name):
    """Whether nothing but get and set rows use the name."""
    for label, params, rows, end in function[3]:
        if name in used_by(end) or any([name in args for led, args in ways_of(end)]):
            return False
        if any([name in row[3] and not is_of_record(row, name) for row in rows]):
            return False
    return True


def is_of_record(row, name):
    """Whether the row gets or sets a field of that record."""
    return row[1] in ("get", "set") and row[3][0] == name


def is_told_block(function, count, told):
    if not is_tuple_of(told, 2) or not is_number(told[0]) or not is_tuple_of(told[1], count):
        return False
    return block_of(function, told[0]) is not None and all([is_number(name) for name in told[1]])


def with_record_kept(program, body):
    """The program with the record that body tells kept in names so; Unknown where its fields aren't known."""
    made = []
    for function in program:
        if function[0] == body[0]:
            record = Record(body[1], fields_of(function, body[1]), body[2])
            function = function[:3] + (tuple([block_kept(record, block) for block in function[3]]),)
        made.append(function)
    return tuple(made)


def block_kept(record, block):
    label, params, rows, end = block
    # None where the fields aren't known, else the names that they stand for.
    fields = None
    if label in record.told:
        fields = list(record.told[label])
        params += tuple([(name, NUMBER) for name in fields])
    new_rows = []
    for index, row in enumerate(rows):
        if row[0] == record.name:
            fields = [record.name] * record.count
            row = (record.name, "num", 0, ())
        elif is_of_record(row, record.name):
            if fields is None:
                raise Unknown(label, index)
            row = row_kept(row, fields)
        new_rows.append(row)
    if fields is None and any([led in record.told for led, args in ways_of(end)]):
        raise Unknown(label, len(rows))
    return (label, params, tuple(new_rows), end_kept(record, end, fields))


def row_kept(row, fields):
    """The row in the stead of a get or a set; by a set its field stands for what was set."""
    name, op, told, args = row
    if op == "get":
        return (name, "copy", None, (fields[told],))
    fields[told] = args[1]
    return (name, "num", 0, ())


def end_kept(record, end, fields):
    """The end, by which the names in told blocks get what the fields stand for."""
    ways = [(led, args + tuple(fields) if led in record.told else args) for led, args in ways_of(end)]
    return end_with(end, used_by(end), ways)
