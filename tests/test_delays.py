"""Point 28: how many ticks a block's rows take."""

import random
import unittest

from passpapers.delays import ticks_of

NUM = ("num", 1, 0, ())


def plain_ticks(rows, delays):
    """As the point tells it, each row by looking back at all those ahead."""
    begins = []
    times = [0]
    for at, (op, told, target, sources) in enumerate(rows):
        reads = [("slot", told)] if op == "load" else [("slot" if op == "call" else "register", source) for source in sources]
        begin = begins[-1] + 1 if begins else 0
        for place in reads:
            writers = [k for k in range(at) if writes(rows[k]) == place]
            if writers:
                begin = max(begin, begins[writers[-1]] + delays.get(rows[writers[-1]][0], 1))
        begins.append(begin)
        times.append(begin)
        if writes(rows[at]) is not None:
            times.append(begin + delays.get(op, 1))
    return max(times)


def writes(row):
    if row[0] == "save":
        return ("slot", row[1])
    return None if row[2] is None else ("register", row[2])


def random_rows(chooser, many):
    rows = []
    for k in range(many):
        op = chooser.choice(("num", "+", "+", "*", "not", "copy", "move", "load", "load", "save", "save", "call", "out", "tick", "get", "set", "store", "/"))
        register, slot = chooser.randrange(3), chooser.randrange(3)
        target = chooser.choice((None, 0, 1, 2, 2, 1))
        if op == "load":
            rows.append((op, slot, register, ()))
        elif op == "save":
            rows.append((op, slot, None, (register,)))
        elif op == "move":
            rows.append((op, None, register, (chooser.randrange(3),)))
        elif op == "call":
            rows.append((op, "two", target, (slot, chooser.randrange(3))))
        else:
            told = 1 if op in ("num", "get", "set") else None
            many_sources = {"num": 0, "tick": 0, "not": 1, "copy": 1, "out": 1, "get": 1, "store": 3}.get(op, 2)
            rows.append((op, told, target, tuple(chooser.randrange(3) for source in range(many_sources))))
    return tuple(rows)


def random_delays(chooser):
    ops = ("num", "+", "*", "/", "not", "copy", "move", "load", "save", "call", "out", "tick", "get", "set", "store", "at", "long", "list", "-", "<", "=", "rest", "and", "or", "new")
    return {op: chooser.randint(1, 9) for op in ops if chooser.random() < 0.6}


class TestTicks(unittest.TestCase):
    def check(self, expected, rows, delays):
        self.assertEqual(expected, ticks_of(rows, delays))
        self.assertEqual(expected, plain_ticks(rows, delays))
        self.assertIs(int, type(ticks_of(rows, delays)))

    def test_no_rows(self):
        self.check(0, (), {})
        self.check(0, (), {"num": 9})

    def test_one_row(self):
        for delay in range(1, 10):
            for row in (NUM, ("load", 3, 0, ()), ("save", 3, None, (0,)), ("+", None, 0, (0, 1)), ("call", "main", 2, (0, 1)), ("move", None, 1, (0,))):
                self.check(delay, (row,), {row[0]: delay, "other": 4})
        self.check(1, (NUM,), {})
        self.check(1, (NUM,), {"+": 7})

    def test_rows_without_a_target(self):
        out = ("out", None, None, (0,))
        self.check(0, (out,), {"out": 9})
        self.check(1, (out, out), {"out": 9})
        self.check(4, (("num", 1, None, ()), ("tick", None, None, ()), out, ("call", "say", None, (0,)), ("set", 1, None, (0, 1))), {"num": 9, "set": 9, "call": 9, "tick": 5})
        self.check(9, (("out", None, 1, (0,)),), {"out": 9})

    def test_a_row_that_waits(self):
        plus = ("+", None, 2, (0, 1))
        self.check(6, (("load", 5, 0, ()), plus), {"load": 5})
        self.check(8, (("load", 5, 0, ()), plus), {"load": 5, "+": 3})
        self.check(2, (("num", 1, 0, ()), plus), {})
        # It waits for the later of two.
        self.check(7, (("load", 5, 0, ()), ("load", 5, 1, ()), plus), {"load": 5})
        self.check(6, (("load", 5, 0, ()), ("num", 5, 1, ()), plus), {"load": 5})
        self.check(8, (("num", 5, 0, ()), ("load", 5, 1, ()), plus), {"load": 6})
        # Nothing waits for what isn't read.
        self.check(9, (("load", 5, 3, ()), ("num", 5, 1, ()), plus), {"load": 9})

    def test_one_tick_behind_the_one_ahead(self):
        rows = tuple(("num", 1, k, ()) for k in range(5))
        self.check(5, rows, {})
        self.check(13, rows, {"num": 9})
        # A row that waits holds up all that stand behind it.
        self.check(12, (("load", 0, 0, ()), ("not", None, 1, (0,)), ("num", 1, 2, ()), ("num", 1, 2, ()), ("num", 1, 2, ())), {"load": 8})

    def test_a_register_written_twice(self):
        # The last one counts, also where the one ahead of it is ready later.
        self.check(9, (("load", 0, 0, ()), ("num", 1, 0, ()), ("not", None, 1, (0,))), {"load": 9})
        self.check(9, (("load", 0, 0, ()), ("num", 1, 0, ()), ("not", None, 1, (0,)), ("not", None, 2, (0,)), ("not", None, 3, (0,))), {"load": 9})
        self.check(12, (("num", 1, 0, ()), ("load", 0, 0, ()), ("not", None, 1, (0,))), {"load": 9, "not": 2})
        self.check(5, (("num", 1, 0, ()), ("num", 1, 0, ()), ("not", None, 1, (0,)), ("not", None, 2, (0,))), {"not": 2})

    def test_what_is_read_and_written_by_one_row(self):
        plus = ("+", None, 0, (0, 0))
        self.check(4, (plus,), {"+": 4})
        self.check(8, (plus, plus), {"+": 4})
        self.check(12, (plus, plus, plus), {"+": 4})
        self.check(6, (("move", None, 0, (0,)), ("move", None, 0, (0,))), {"move": 3})

    def test_slots(self):
        save, load = ("save", 2, None, (0,)), ("load", 2, 1, ())
        self.check(9, (save, load), {"save": 5, "load": 4})
        self.check(5, (save, ("load", 1, 1, ())), {"save": 5, "load": 4})
        self.check(6, (save, ("call", "two", None, (1, 2)), ("num", 1, 0, ())), {"save": 4})
        self.check(4, (save, ("call", "two", None, (1, 0)), ("num", 1, 0, ())), {"save": 4})
        self.check(7, (save, ("call", "two", 3, (1, 2))), {"save": 4, "call": 3})
        # A slot isn't the register of that number, nor the other way round.
        self.check(5, (("save", 0, None, (0,)), ("not", None, 1, (0,))), {"save": 5})
        self.check(5, (("num", 1, 0, ()), ("load", 0, 1, ())), {"num": 5})
        self.check(5, (("num", 1, 0, ()), ("call", "one", 1, (0,))), {"num": 5})
        # What is told of other rows is no slot.
        self.check(6, (("save", 1, None, (0,)), ("num", 1, 1, ()), ("get", 1, 2, (3,))), {"save": 6})

    def test_many_rows(self):
        for seed in range(300):
            chooser = random.Random(seed)
            rows, delays = random_rows(chooser, chooser.randint(0, 15)), random_delays(chooser)
            self.assertEqual(plain_ticks(rows, delays), ticks_of(rows, delays))
            self.assertEqual(ticks_of(rows, delays), ticks_of(list(rows), delays))

    def test_what_is_handed_in_stays(self):
        rows, delays = [("load", 0, 0, ()), ("not", None, 1, (0,))], {"load": 3}
        self.assertEqual(4, ticks_of(rows, delays))
        self.assertEqual(([("load", 0, 0, ()), ("not", None, 1, (0,))], {"load": 3}), (rows, delays))
        self.assertEqual(2, ticks_of(rows, {}))
        self.assertEqual(4, ticks_of(rows, delays))


if __name__ == "__main__":
    unittest.main()
