"""The walk of one block of after along its path of blocks of before."""

from passpapers.middle import names_used, param_names, used_by, ways_of


class Road:
    """What a function's blocks are walked by: before's blocks, after's params and used names, and paths and pairs."""

    def __init__(self, was, function, told):
        self.blocks = {block[0]: block for block in was[3]}
        self.params = {block[0]: param_names(block[1]) for block in function[3]}
        self.wanted_names = names_used(function)
        self.paths = {label: path for label, path, pairs in told}
        self.pairs = {label: pairs for label, path, pairs in told}


def stray_of(road, label, rows, end):
    """Where the block of that label, were these its rows and its end, isn't as the paper wants it: (index, wanted).

    The index is that of a row, or of the end, or -1 where the path is none; wanted is what the row should be but for
    its name, None where there should be none. None where all is as wanted.
    """
    standing = dict(road.pairs[label])
    index = 0
    last = None
    for step in road.paths[label]:
        block = road.blocks[step]
        if last is not None and not is_led_on(last, block, standing, rows[:index]):
            return (-1, None)
        for name, op, told, args in block[2]:
            wanted = (op, told, tuple([standing.get(arg) for arg in args]))
            if index == len(rows) or rows[index][1:] != wanted:
                return (index, wanted)
            standing[name] = rows[index][0]
            index += 1
        last = block
    if index < len(rows) or not is_end_right(road, last[3], end, standing):
        return (index, None)
    return None


def is_led_on(last, block, standing, ahead):
    """Whether the last block leads to this one, by the rows ahead; then its params stand for what is handed."""
    ways = ways_of(last[3])
    side = 0
    if last[3][0] == "branch":
        numbers = {row[0]: row[2] for row in ahead if row[1] == "num"}
        if standing.get(last[3][1]) not in numbers:
            return False
        side = 1 if numbers[standing[last[3][1]]] == 0 else 0
    if len(ways) == 0 or ways[side][0] != block[0]:
        return False
    handed = [standing.get(arg) for arg in ways[side][1]]
    for name, new in zip(param_names(block[1]), handed):
        standing[name] = new
    return True


def is_end_right(road, end, other, standing):
    """Whether the other end, of after, is as this one, of before, by what stands for names."""
    if end[0] != other[0] or (end[0] == "fail" and end != other):
        return False
    if [standing.get(name) for name in used_by(end)] != list(used_by(other)):
        return False
    return all([is_way_right(road, way, led, standing) for way, led in zip(ways_of(end), ways_of(other))])


def is_way_right(road, way, led, standing):
    """Whether the way led in after goes where this one of before does, and all pairs hold there."""
    if road.paths[led[0]][0] != way[0]:
        return False
    handed = dict(zip(param_names(road.blocks[way[0]][1]), way[1]))
    taken_in = dict(zip(road.params[led[0]], led[1]))
    for old, new in road.pairs[led[0]]:
        stands = standing.get(handed.get(old, old))
        if stands is None or stands != taken_in.get(new, new):
            return False
    return True


def odd_row_of(road, label, rows, end, stray):
    """The index of the row or end that alone is wrong; where there is none such, that at which the walk goes astray.

    A row too many may look like the next one, so the walk may go astray only behind it.
    """
    index, wanted = stray
    if index < 0 or index == len(rows):
        return index
    if wanted is not None and is_right_with(road, label, rows, end, index, [rows[index][:1] + wanted]):
        return index
    for place in range(index, -1, -1):
        # A row whose name is used isn't too many.
        if rows[place][0] not in road.wanted_names and is_right_with(road, label, rows, end, place, []):
            return place
    return row_displaced(road, label, rows, end, index)


def is_right_with(road, label, rows, end, place, others):
    """Whether the block would be right with these other rows instead of the row at that place."""
    return stray_of(road, label, rows[:place] + tuple(others) + rows[place + 1:], end) is None


def row_displaced(road, label, rows, end, index):
    """The index of the row that alone stands at the wrong place, if there is one such; else the index told."""
    for place in range(index, len(rows)):
        if stray_of(road, label, moved_to(rows, place, index), end) is None:
            return place
    for place in range(index + 1, len(rows)):
        if stray_of(road, label, moved_to(rows, index, place), end) is None:
            return index
    return index


def moved_to(rows, place, goal):
    """The rows with that at the place moved to stand at the goal."""
    others = rows[:place] + rows[place + 1:]
    return others[:goal] + rows[place:place + 1] + others[goal:]
