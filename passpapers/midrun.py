"""Programs of the middle run. The calls under way are kept in a list, so they may be as deep as the bound lets."""

from passpapers.middle import param_names, ways_of
from passpapers.runs import Ended, run_within, value_of


class Code:
    """A function as runs want it: its params' names, its first block, and its blocks by their labels."""

    def __init__(self, function):
        self.params = param_names(function[1])
        self.first = function[3][0]
        self.blocks = {block[0]: block for block in function[3]}


class Frame:
    """A call under way: its function's blocks, its block and the next row in it, and what its names hold."""

    def __init__(self, code, args):
        self.blocks = code.blocks
        self.block = code.first
        self.next_row = 0
        self.held = dict(zip(code.params, args))

    def has_rows(self):
        return self.next_row < len(self.block[2])

    def row(self):
        return self.block[2][self.next_row]

    def held_by(self, names):
        return [self.held[name] for name in names]

    def row_ended(self, value):
        self.held[self.row()[0]] = value
        self.next_row += 1

    def led(self, label, args):
        """All params get their values at once: the arguments may be these very params."""
        values = self.held_by(args)
        self.block = self.blocks[label]
        self.next_row = 0
        for name, value in zip(param_names(self.block[1]), values):
            self.held[name] = value

    def end_run(self, end):
        """Runs an end other than a give."""
        if end[0] == "fail":
            raise Ended("fault", f"fail {end[1]}")
        ways = ways_of(end)
        side = 1 if end[0] == "branch" and self.held[end[1]] == 0 else 0
        self.led(ways[side][0], ways[side][1])


def answer_of(codes, inputs, run):
    frames = [Frame(codes["main"], inputs)]
    while True:
        frame = frames[-1]
        run.work += 1
        if frame.has_rows():
            name, op, told, args = frame.row()
            values = frame.held_by(args)
            if op == "call":
                run.count_tick()
                frames.append(Frame(codes[told], values))
            else:
                frame.row_ended(value_of(run, op, told, values))
        elif frame.block[3][0] == "give":
            value = frame.held[frame.block[3][1]]
            frames.pop()
            if len(frames) == 0:
                return value
            frames[-1].row_ended(value)
        else:
            frame.end_run(frame.block[3])


def middle_run(program, inputs, bound):
    """(end, value, letters, work): how main, handed these inputs, runs within that bound of ticks."""
    codes = {function[0]: Code(function) for function in program}
    return run_within(bound, lambda run: answer_of(codes, inputs, run))
