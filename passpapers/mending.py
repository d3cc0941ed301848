"""Which row or end of a machine's block alone isn't as the paper wants it."""

from passpapers.courses import is_at_hand, stray_of, walk_rows, walk_way
from passpapers.middle import used_by, ways_of
from passpapers.places import is_carry, place_written, places_read

# Only so many rows ahead of the one at which the walk goes astray are looked at: a block may have tens of thousands.
MOST_LOOKED_AT = 1000


def index_alone(course, block, stray):
    """The index of the row or the end that alone is wrong; where there is none such, where the walk goes astray."""
    label, rows, end = block
    if stray.index == len(rows) and may_end_be_mended(course, block):
        return stray.index
    last = min(stray.index, len(rows) - 1)
    for index in range(last, max(-1, last - MOST_LOOKED_AT), -1):
        if may_row_be_mended(course, block, index):
            return index
    return stray.index


def may_row_be_mended(course, block, index):
    """Whether the block is right with another row in that one's stead, or with none."""
    label, rows, end = block
    for op in ("any", "next"):
        probe = rows[:index] + ((op, None, None, ()),) + rows[index + 1:]
        stray = stray_of(course, label, probe, end)
        if stray is None:
            return True
        target = target_wanted(rows, index, stray)
        if target is not None and (op == "any" or target >= 0):
            probe = rows[:index] + ((op, None, target, ()),) + rows[index + 1:]
            if stray_of(course, label, probe, end) is None:
                return True
    return False


def target_wanted(rows, index, stray):
    """The place that, behind the row of that index, held what came to where the walk goes astray; None for none."""
    where = stray.where
    for later in range(stray.index - 1, index, -1):
        row = rows[later]
        if where is not None and place_written(row) == where:
            where = places_read(row)[0] if is_carry(row) else None
    return where if stray.index > index else None


def may_end_be_mended(course, block):
    """Whether the block is right with another end: its ways may lead to any other labels, by any registers."""
    label, rows, end = block
    own, side, places = course.told[label]
    holding, stray = walk_rows(course, label, rows)
    if stray is not None:
        return False
    if side >= 0:
        return is_way_there(course, label, holding, side)
    wanted = course.blocks[own][3]
    if not all([is_at_hand(holding, wanted[0], name) for name in used_by(wanted)]):
        return False
    return all([is_way_there(course, label, holding, number) for number in range(len(ways_of(wanted)))])


def is_way_there(course, label, holding, side):
    """Whether the way of that side has somewhere to lead to, other than to this very block."""
    others = [led for led in course.told if led != label or course.told[led][1] == -1]
    return any([walk_way(course, label, holding, 0, side, led) is None for led in others])
