"""The walk of one block of after along its path of blocks of before."""

from passpapers.middle import names_used, param_names, used_by, ways_of


class Road:
    """What a function's blocks are walked by: before's blocks, after's params and used names, and paths and pairs."""

    def __init__(self, was, function, told):
        self.blocks = {block[0]: block for block in was[3]}
        self.params = {block[0]: param_names(block[1]) for block in function[3]}
        self.wanted_names = names_used(function)
        self.paths = {label: path for label, path, pairs in told}
        self.pairs = {label: pairs for label, path, pairs in told}


def stray_of(road, label, rows, end):
    """Where the block of that label, were these its rows and its end, isn't as the paper wants it.

    That is the index of a row, or of the end, or -1 where the path is none; None where all is as wanted.
    """
    standing = dict(road.pairs[label])
    index = 0
    last = None
    for step in road.paths[label]:
        block = road.blocks[step]
        if last is not None and not is_led_on(last, block, standing, rows[:index]):
            return -1
        for name, op, told, args in block[2]:
            wanted = (op, told, tuple([standing.get(arg) for arg in args]))
            if index == len(rows) or rows[index][1:] != wanted:
                return index
            standing[name] = rows[index][0]
            index += 1
        last = block
    if index < len(rows) or not is_end_right(road, last[3], end, standing):
        return index
    return None


def is_led_on(last, block, standing, ahead):
    """Whether the last block leads to this one, by the rows ahead; then its params stand for what is handed."""
    ways = ways_of(last[3])
    side = 0
    if last[3][0] == "branch":
        numbers = {row[0]: row[2] for row in ahead if row[1] == "num"}
        if standing.get(last[3][1]) not in numbers:
            return False
        side = 1 if numbers[standing[last[3][1]]] == 0 else 0
    if len(ways) == 0 or ways[side][0] != block[0]:
        return False
    handed = [standing.get(arg) for arg in ways[side][1]]
    for name, new in zip(param_names(block[1]), handed):
        standing[name] = new
    return True


def is_end_right(road, end, other, standing):
    """Whether the other end, of after, is as this one, of before, by what stands for names."""
    if end[0] != other[0] or (end[0] == "fail" and end != other):
        return False
    if [standing.get(name) for name in used_by(end)] != list(used_by(other)):
        return False
    return all([is_way_right(road, way, led, standing) for way, led in zip(ways_of(end), ways_of(other))])


def is_way_right(road, way, led, standing):
    """Whether the way led in after goes where this one of before does, and all pairs hold there."""
    if road.paths[led[0]][0] != way[0]:
        return False
    handed = dict(zip(param_names(road.blocks[way[0]][1]), way[1]))
    taken_in = dict(zip(road.params[led[0]], led[1]))
    for old, new in road.pairs[led[0]]:
        if standing.get(handed.get(old, old)) != taken_in.get(new, new):
            return False
    return True


def odd_row_of(road, label, rows, end, index):
    """The index of the row that alone is too many, or alone out of its order; else that where the walk goes astray.

    Such a row may look like the next one, so the walk may go astray only behind it.
    """
    if index < 0 or index == len(rows):
        return index
    for place in range(index, -1, -1):
        # A row whose name is used isn't too many.
        others = rows[:place] + rows[place + 1:]
        if rows[place][0] not in road.wanted_names and stray_of(road, label, others, end) is None:
            return place
    for place in range(index + 1, len(rows)):
        others = rows[:index] + rows[place:place + 1] + rows[index:place] + rows[place + 1:]
        if stray_of(road, label, others, end) is None:
            return place
    return index
