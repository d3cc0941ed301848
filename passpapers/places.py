"""Which registers and slots the rows of a machine read and write.

A place is a register's number, or -1 - slot for a slot. A row is (op, told, target, sources).
"""


def slot_place(slot):
    return -1 - slot


def slot_at(place):
    return -1 - place


def places_read(row):
    op, told, target, sources = row
    if op == "load":
        return [slot_place(told)]
    if op == "call":
        return [slot_place(slot) for slot in sources]
    return list(sources)


def place_written(row):
    """The place that the row writes; None where it writes none."""
    op, told, target, sources = row
    return slot_place(told) if op == "save" else target


def is_carry(row):
    """Whether the row does nothing but carry a value from one place to another."""
    return row[0] in ("load", "save", "move")
