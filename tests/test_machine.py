"""Point 26: which machines are right, and where wrong ones are wrong."""

import unittest

from passpapers.errors import NoMachine, NoMiddle, NoPass, NoText, NoTree, PassError
from passpapers.machine import look_at_machine

GIVE = ("give", 0)
SUMS = ("+", "-", "*", "/", "rest", "<", "=", "and", "or")
OTHERS = (("none", 0, 0, ((0, (), GIVE),)), ("both", 2, 5, ((7, (), GIVE),)))


def machine_of(*blocks, registers=4, count=2, slots=6, others=OTHERS):
    return (registers, others + (("main", count, slots, blocks),))


class Looking(unittest.TestCase):
    def right(self, machine):
        self.assertIsNone(look_at_machine(machine))

    def wrong(self, machine, place=None):
        with self.subTest(machine=machine):
            with self.assertRaises(NoMachine) as caught:
                look_at_machine(machine)
            told = caught.exception.place
            self.assertEqual([tuple, str, int, int], [type(told)] + [type(part) for part in told])
            if place is not None:
                self.assertEqual(place, told)

    def right_row(self, *row):
        self.right(machine_of((5, (("num", 1, 0, ()), row, ("tick", None, None, ())), GIVE)))

    def wrong_row(self, *row):
        self.wrong(machine_of((5, (("num", 1, 0, ()), row, ("tick", None, None, ())), GIVE)), ("main", 5, 1))
        self.wrong(machine_of((5, (), GIVE), (6, (row,), GIVE)), ("main", 6, 0))

    def right_end(self, *end):
        self.right(machine_of((5, (("tick", None, None, ()),), end), (6, (), GIVE)))

    def wrong_end(self, *end):
        self.wrong(machine_of((5, (("tick", None, None, ()),), end), (6, (), GIVE)), ("main", 5, 1))


class TestErrors(unittest.TestCase):
    def test_the_refusal(self):
        with self.assertRaises(NoMachine) as caught:
            look_at_machine(())
        self.assertIsInstance(caught.exception, PassError)
        self.assertIsInstance(caught.exception, ValueError)
        for other in (NoText, NoTree, NoMiddle, NoPass):
            self.assertNotIsInstance(caught.exception, other)
            self.assertFalse(issubclass(other, NoMachine))


class TestMachines(Looking):
    def test_registers(self):
        for registers in (3, 4, 5, 6, 7, 8):
            self.right(machine_of((5, (), GIVE), registers=registers))
            self.right(machine_of((5, (("num", 1, registers - 1, ()),), GIVE), registers=registers))
            self.wrong(machine_of((5, (("num", 1, registers, ()),), GIVE), registers=registers), ("main", 5, 0))
        for registers in (2, 9, 0, -1, 1, 100, None, "4", True, (4,)):
            self.wrong(machine_of((5, (), GIVE), registers=registers), ("", -1, -1))

    def test_the_form(self):
        functions = machine_of((5, (), GIVE))[1]
        for machine in (None, 0, "", (), (4,), (4, functions, ()), [4, functions], (4, list(functions)), (4, None), (functions, 4), (4, 5), (4, functions + (None,)), (4, functions + ((),)),
                        (4, functions + (("more", 0, 0),)), (4, functions + (("more", 0, 0, ((0, (), GIVE),), 0),)), (4, functions + (["more", 0, 0, ((0, (), GIVE),)],)),
                        (4, functions + ((5, 0, 0, ((0, (), GIVE),)),))):
            self.wrong(machine, ("", -1, -1))

    def test_names(self):
        block = ((0, (), GIVE),)
        self.right((3, (("main", 0, 0, block),)))
        self.right((3, (("a", 0, 0, block), ("main", 0, 0, block), ("eightabc", 0, 0, block))))
        self.wrong((3, ()), ("", -1, -1))
        self.wrong((3, (("mian", 0, 0, block),)), ("", -1, -1))
        self.wrong((3, (("main", 0, 0, block), ("a", 0, 0, block), ("a", 0, 0, block))), ("a", -1, -1))
        self.wrong((3, (("main", 0, 0, block), ("main", 0, 0, block))), ("main", -1, -1))
        for name in ("", "Main", "a b", "ninesigns", "x1"):
            self.wrong((3, (("main", 0, 0, block), (name, 0, 0, block))), (name, -1, -1))

    def test_counts_and_slots(self):
        for count, slots in ((0, 0), (0, 1), (1, 1), (5, 5), (5, 10000), (10000, 10000), (0, 10000)):
            self.right(machine_of((5, (), GIVE), count=count, slots=slots))
        for count, slots in ((1, 0), (6, 5), (10001, 10001), (0, 10001), (10000, 9999), (-1, 5), (0, -1), (-1, -1), (None, 5), (2, None), ("2", 5), (2, "5"), (True, 5), (0, True), (0, False)):
            self.wrong(machine_of((5, (), GIVE), count=count, slots=slots), ("main", -1, -1))
        self.right(machine_of((5, (("load", 9999, 0, ()), ("save", 9999, None, (0,))), GIVE), slots=10000))
        self.wrong(machine_of((5, (("load", 10000, 0, ()),), GIVE), slots=10000), ("main", 5, 0))

    def test_blocks_and_labels(self):
        self.right(machine_of((5, (), GIVE), (0, (), GIVE), (10 ** 6, (), GIVE)))
        self.wrong(machine_of(), ("main", -1, -1))
        self.wrong((3, (("main", 0, 0, None),)), ("main", -1, -1))
        self.wrong((3, (("main", 0, 0, [(0, (), GIVE)]),)), ("main", -1, -1))
        self.wrong(machine_of((5, (), GIVE), (6, (), GIVE), (5, (), GIVE)), ("main", 5, -1))
        self.wrong(machine_of((5, (), GIVE), (6, (), GIVE), (6, (), GIVE)), ("main", 6, -1))
        for block in (None, (), (6, ()), (6, (), GIVE, ()), [6, (), GIVE], (-1, (), GIVE), ("6", (), GIVE), (True, (), GIVE), (None, (), GIVE)):
            self.wrong(machine_of((5, (), GIVE), block), ("main", -1, -1))
        for rows in (None, [], 0, "", [("tick", None, None, ())]):
            self.wrong(machine_of((5, (), GIVE), (6, rows, GIVE)), ("main", 6, -1))

    def test_labels_are_each_function_s_own(self):
        self.right((3, (("main", 0, 0, ((5, (), ("jump", 6)), (6, (), GIVE))), ("aid", 0, 0, ((6, (), ("jump", 5)), (5, (), GIVE))))))
        self.wrong((3, (("main", 0, 0, ((5, (), ("jump", 6)),)), ("aid", 0, 0, ((6, (), GIVE),)))), ("main", 5, 0))


class TestRows(Looking):
    def ops(self, op, told, sources):
        """The row is right with any target, and wrong with one thing wrong."""
        for target in (None, 0, 3):
            self.right_row(op, told, target, sources)
        for target in (4, -1, "0", True, (0,), 8):
            self.wrong_row(op, told, target, sources)
        self.wrong_row(op, told, 0, sources + (0,))
        self.wrong_row(op, told, 0, list(sources))
        self.wrong_row(op, told, 0, None)
        for at in range(len(sources)):
            self.wrong_row(op, told, 0, sources[:at] + sources[at + 1:])
            for source in (4, -1, None, "0", True, 9):
                self.wrong_row(op, told, 0, sources[:at] + (source,) + sources[at + 1:])

    def untold(self, op, sources):
        self.ops(op, None, sources)
        for told in (0, "", (), 1, "main", False):
            self.wrong_row(op, told, 0, sources)

    def test_sums_copies_and_lists(self):
        for op in SUMS:
            self.untold(op, (0, 3))
            self.right_row(op, None, 1, (1, 1))
        for op, sources in (("not", (2,)), ("copy", (3,)), ("list", (0,)), ("long", (1,)), ("at", (1, 2)), ("store", (1, 2, 3)), ("store", (1, 1, 1)), ("out", (3,)), ("tick", ())):
            self.untold(op, sources)

    def test_num(self):
        self.ops("num", 5, ())
        for told in (0, 32767, -32768):
            self.right_row("num", told, 1, ())
        for told in (32768, -32769, None, "5", True, ()):
            self.wrong_row("num", told, 1, ())

    def test_records(self):
        for told in (1, 2, 3, 4):
            self.ops("new", told, ())
        for told in (0, 5, -1, None, "1", True):
            self.wrong_row("new", told, 0, ())
        for told in (0, 1, 2, 3):
            self.ops("get", told, (1,))
            self.ops("set", told, (1, 2))
        for told in (-1, 4, None, "0", False):
            self.wrong_row("get", told, 0, (1,))
            self.wrong_row("set", told, 0, (1, 2))

    def test_calls(self):
        for target in (None, 0, 3):
            self.right_row("call", "none", target, ())
            self.right_row("call", "both", target, (0, 5))
            self.right_row("call", "main", target, (4, 4))
        for target in (4, -1, "0", True):
            self.wrong_row("call", "both", target, (0, 5))
        for told, sources in (("none", (0,)), ("both", ()), ("both", (0,)), ("both", (0, 1, 2)), ("both", (0, 6)), ("both", (-1, 0)), ("both", (0, None)), ("both", (0, True)),
                              ("both", [0, 5]), ("both", None), ("bothe", (0, 5)), (None, ()), (5, ()), (("both",), (0, 5)), ("", ())):
            self.wrong_row("call", told, 0, sources)

    def test_load_save_and_move(self):
        for slot in (0, 5):
            for target in (0, 3):
                self.right_row("load", slot, target, ())
                self.right_row("save", slot, None, (target,))
                self.right_row("move", None, target, (slot % 4,))
        for row in (("load", 6, 0, ()), ("load", -1, 0, ()), ("load", None, 0, ()), ("load", True, 0, ()), ("load", 0, None, ()), ("load", 0, 4, ()), ("load", 0, -1, ()), ("load", 0, 0, (0,)),
                    ("load", 0, 0, []), ("load", 0, 0, None), ("load", "0", 0, ()), ("load", 0, True, ())):
            self.wrong_row(*row)
        for row in (("save", 6, None, (0,)), ("save", -1, None, (0,)), ("save", None, None, (0,)), ("save", 0, 0, (0,)), ("save", 0, None, ()), ("save", 0, None, (0, 0)), ("save", 0, None, (4,)),
                    ("save", 0, None, (None,)), ("save", 0, None, [0]), ("save", 0, None, (True,))):
            self.wrong_row(*row)
        for row in (("move", 0, 0, (0,)), ("move", None, None, (0,)), ("move", None, 4, (0,)), ("move", None, 0, ()), ("move", None, 0, (4,)), ("move", None, 0, (0, 1)), ("move", None, 0, (-1,)),
                    ("move", None, 0, 0)):
            self.wrong_row(*row)

    def test_no_rows(self):
        for row in (None, (), ("num", 1, 0), ("num", 1, 0, (), ()), ["num", 1, 0, ()], ("jump", 6, None, ()), ("", None, 0, ()), (None, None, 0, ()), (5, None, 0, ()), (("num",), 1, 0, ()),
                    ("Num", 1, 0, ()), ("give", None, 0, (0,))):
            machine = machine_of((5, (("num", 1, 0, ()), row), GIVE))
            self.wrong(machine, ("main", 5, 1))


class TestEnds(Looking):
    def test_ends(self):
        for end in (("jump", 6), ("jump", 5), ("branch", 0, 6, 6), ("branch", 3, 5, 6), ("give", 0), ("give", 3), ("fail", 0), ("fail", -7), ("fail", 32767)):
            self.right_end(*end)
        for end in (("jump", 7), ("jump", -1), ("jump", None), ("jump",), ("jump", 6, ()), ("jump", "6"), ("branch", 4, 6, 6), ("branch", -1, 6, 6), ("branch", None, 6, 6),
                    ("branch", 0, 6), ("branch", 0, 6, 7), ("branch", 0, 7, 6), ("branch", 0, 6, 6, 6), ("branch", 0, 6, None), ("branch", 0, (), 6), ("give", 4), ("give", -1), ("give", None),
                    ("give",), ("give", 0, 0), ("give", True), ("fail", None), ("fail", "1"), ("fail",), ("fail", 1, 1), ("fail", True), ("stop", 0), (), (None,), (5, 5)):
            self.wrong_end(*end)
        for end in (None, [], ["give", 0], "give", 0):
            self.wrong(machine_of((5, (), end)), ("main", 5, 0))
        self.wrong(machine_of((0, (), ("branch", 0, 1, 2)), (1, (), GIVE), (2, (), ("jump", True))), ("main", 2, 0))

    def test_the_first_block_may_be_led_to(self):
        self.right(machine_of((5, (("tick", None, None, ()),), ("branch", 0, 5, 6)), (6, (), ("give", 0))))

    def test_rings(self):
        tick, call, num = ("tick", None, None, ()), ("call", "none", None, ()), ("num", 1, 0, ())
        for rows in ((tick,), (call,), (num, tick), (call, num)):
            self.right(machine_of((5, (), ("jump", 6)), (6, rows, ("branch", 0, 6, 7)), (7, (), GIVE)))
            self.right(machine_of((5, (), ("jump", 6)), (6, (), ("branch", 0, 8, 7)), (7, (), GIVE), (8, rows, ("jump", 6))))
        for rows in ((), (num,), (num, ("save", 0, None, (0,)))):
            self.wrong(machine_of((5, (), ("jump", 6)), (6, rows, ("branch", 0, 6, 7)), (7, (), GIVE)), ("main", 6, len(rows)))
            self.wrong(machine_of((5, (), ("jump", 6)), (6, (), ("branch", 0, 8, 7)), (7, (), GIVE), (8, rows, ("jump", 6))))
        # To which no way leads from the first.
        self.wrong(machine_of((5, (), GIVE), (6, (), ("jump", 6))), ("main", 6, 0))
        self.right(machine_of((5, (), GIVE), (6, (tick,), ("jump", 6))))
        # A ring beside one with a tick.
        self.wrong(machine_of((5, (tick,), ("jump", 6)), (6, (), ("branch", 0, 5, 7)), (7, (), ("branch", 0, 6, 8)), (8, (), GIVE)), ("main", 7, 0))


class TestMany(Looking):
    def test_large_ones(self):
        blocks = tuple((k, (("num", 1, 0, ()),) * 200, ("branch", 0, k + 1, k + 1)) for k in range(199)) + ((199, (("tick", None, None, ()),), GIVE),)
        self.right(machine_of(*blocks))
        self.wrong(machine_of(*(blocks[:199] + ((199, (), ("jump", 0)),))), ("main", 199, 0))


if __name__ == "__main__":
    unittest.main()
