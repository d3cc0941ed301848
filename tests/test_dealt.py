"""Points 12 and 29: programs of the middle dealt to machines."""

import random
import unittest

from drawing import drawn, inputs_for
from growing import grown
from machspoiling import is_machine, spoiled_machines, with_part
from spoiling import NO_PAPERS, changed, main_of

from passpapers.dealing import deal
from passpapers.dealt import dealt_wrong
from passpapers.looks import look_at_middle
from passpapers.lowering import lower
from passpapers.machine import look_at_machine
from passpapers.machrun import machine_run
from passpapers.midrun import middle_run

SAY = ("say", ((0, 0),), 0, ((0, (), ((1, "out", None, (0,)),), ("give", 0)),))
MAIN = main_of(
    (5, (), ((2, "+", None, (0, 90)), (1, "num", 1, ()), (3, "call", "say", (2,))), ("branch", 2, 6, (1, 2), 7, ())),
    (6, ((10, 0), (11, 0)), ((12, "tick", None, ()), (13, "out", None, (10,)), (14, "-", None, (11, 1))), ("branch", 14, 6, (11, 14), 7, ())),
    (7, (), (), ("give", 90)))
PROGRAM = (SAY,) + MAIN
SAY_MADE = ("say", 1, 1, ((0, (("load", 0, 0, ()), ("out", None, 1, (0,))), ("give", 0)),))
MADE = (SAY_MADE, ("main", 2, 6, (
    (50, (("load", 0, 0, ()), ("load", 1, 1, ()), ("+", None, 2, (0, 1)), ("save", 2, None, (2,)), ("num", 1, 0, ()), ("save", 3, None, (0,)), ("call", "say", None, (2,))), ("branch", 2, 51, 53)),
    (51, (("save", 4, None, (0,)), ("save", 5, None, (2,))), ("jump", 52)),
    (52, (("tick", None, 1, ()), ("load", 4, 0, ()), ("out", None, None, (0,)), ("load", 5, 1, ()), ("load", 3, 2, ()), ("-", None, 0, (1, 2))), ("branch", 0, 54, 53)),
    (53, (("load", 1, 2, ()),), ("give", 2)),
    (54, (("save", 4, None, (1,)), ("move", None, 2, (0,)), ("save", 5, None, (2,))), ("jump", 52)))))
MACHINE = (3, MADE)
SAY_TOLD = ((0, 0, -1, ((-1, 0),)),)
TOLD = ((50, 5, -1, ((-1, 0), (-2, 90))), (51, 5, 0, ((-2, 90), (-4, 1), (0, 1), (2, 2))), (52, 6, -1, ((-2, 90), (-4, 1), (-5, 10), (-6, 11))), (53, 7, -1, ((-2, 90),)),
        (54, 6, 0, ((-2, 90), (-4, 1), (1, 11), (0, 14))))
INPUTS = ([0, 0], [1, 1], [2, 1], [-3, 2], [5, 0])


def paper_of(*entries):
    return ("dealt", (SAY_TOLD, tuple(entries)))


def with_entry(at, **parts):
    keys = ("label", "block", "side", "places")
    return paper_of(*TOLD[:at], tuple(parts.get(key, part) for key, part in zip(keys, TOLD[at])), *TOLD[at + 1:])


def rows_of(label):
    return [block[1] for block in MADE[1][3] if block[0] == label][0]


def with_row(label, index, *row):
    rows = rows_of(label)
    return with_part(MACHINE, "main", label, rows[:index] + row + rows[index + 1:])


class Dealing(unittest.TestCase):
    def let_by(self, program, machine, paper):
        self.assertIsNone(look_at_middle(program))
        self.assertIsNone(dealt_wrong(program, machine, paper))

    def wrong(self, program, machine, paper, place=None):
        self.assertIsNone(look_at_middle(program))
        told = dealt_wrong(program, machine, paper)
        self.assertIsNotNone(told)
        self.assertEqual([tuple, str, int, int], [type(told)] + [type(part) for part in told])
        if place is not None:
            self.assertEqual(place, told)

    def run_alike(self, program, machine, inputs=INPUTS, bounds=(0, 1, 2, 3, 8, 30)):
        for given in inputs:
            for bound in bounds:
                self.assertEqual(middle_run(program, given, bound)[:3], machine_run(machine, given, bound)[:3])


class TestDealtWrong(Dealing):
    def test_let_by(self):
        self.let_by(PROGRAM, MACHINE, paper_of(*TOLD))
        self.run_alike(PROGRAM, MACHINE)
        # With more registers and slots than it needs.
        self.let_by(PROGRAM, (8, (SAY_MADE, MADE[1][:2] + (10000,) + MADE[1][3:])), paper_of(*TOLD))

    def test_each_row(self):
        for label, index, row in (
                (50, 2, ("+", None, 2, (1, 0))), (50, 2, ("+", None, 2, (0, 0))), (50, 2, ("-", None, 2, (0, 1))), (50, 2, ("not", None, 2, (0,))), (50, 4, ("num", 2, 0, ())), (50, 4, ("tick", None, 0, ())),
                (50, 6, ("call", "say", None, (3,))), (50, 6, ("call", "say", None, (0,))), (50, 6, ("num", 1, None, ())), (50, 6, ("call", "main", None, (2, 2))),
                (52, 2, ("out", None, None, (1,))), (52, 2, ("out", None, None, (2,))), (52, 5, ("-", None, 0, (2, 1))), (52, 5, ("-", None, 0, (1, 1))), (52, 5, ("+", None, 0, (1, 2))),
                # Rows that carry what isn't wanted there, or not where it is wanted.
                (50, 0, ("load", 1, 0, ())), (50, 0, ("load", 2, 0, ())), (50, 1, ("load", 0, 1, ())), (50, 1, ("load", 1, 0, ())), (50, 3, ("save", 3, None, (2,))), (50, 3, ("save", 2, None, (1,))),
                (50, 5, ("save", 3, None, (1,))), (50, 5, ("save", 1, None, (0,))), (51, 0, ("save", 4, None, (2,))), (51, 0, ("save", 1, None, (0,))), (51, 1, ("save", 5, None, (1,))),
                (51, 1, ("save", 4, None, (2,))), (52, 1, ("load", 5, 0, ())), (52, 3, ("load", 4, 1, ())), (52, 4, ("load", 5, 2, ())), (53, 0, ("load", 0, 2, ())), (54, 0, ("save", 4, None, (0,))),
                (54, 0, ("save", 5, None, (1,))), (54, 2, ("save", 5, None, (1,))), (54, 2, ("save", 3, None, (2,))),
                # Another row than one that only carries, and the other way round.
                (54, 1, ("copy", None, 2, (0,))), (51, 0, ("num", 1, 0, ())), (52, 5, ("move", None, 0, (1,))), (50, 4, ("move", None, 0, (0,))),
                # A target that leaves no one to hold the name.
                (50, 2, ("+", None, None, (0, 1))), (50, 4, ("num", 1, None, ())), (52, 5, ("-", None, None, (1, 2)))):
            with self.subTest(label=label, row=row):
                self.assertIsNone(look_at_machine(with_row(label, index, row)))
                self.wrong(PROGRAM, with_row(label, index, row), paper_of(*TOLD), ("main", label, index))

    def test_rows_too_many(self):
        for label in (50, 51, 52, 53, 54):
            rows = rows_of(label)
            for index in range(len(rows) + 1):
                for row in (("num", 77, None, ()), ("tick", None, None, ()), ("out", None, None, (0,))):
                    # Ahead of one like it, either may be told.
                    alike = index < len(rows) and rows[index][:2] == row[:2]
                    more = with_part(MACHINE, "main", label, rows[:index] + (row,) + rows[index:])
                    self.wrong(PROGRAM, more, paper_of(*TOLD), None if alike else ("main", label, index))
        for label, index, row in ((50, 2, ("load", 0, 1, ())), (50, 3, ("move", None, 2, (0,))), (50, 6, ("save", 2, None, (0,))), (51, 0, ("save", 1, None, (0,))), (52, 5, ("load", 0, 1, ())),
                                  (52, 2, ("move", None, 0, (1,))), (53, 1, ("move", None, 2, (1,))), (54, 2, ("save", 3, None, (0,))), (54, 3, ("save", 5, None, (1,)))):
            rows = rows_of(label)
            with self.subTest(label=label, row=row):
                self.wrong(PROGRAM, with_part(MACHINE, "main", label, rows[:index] + (row,) + rows[index:]), paper_of(*TOLD), ("main", label, index))
        # Rows that carry what does no harm.
        for label, index, row in ((50, 2, ("load", 1, 2, ())), (52, 1, ("load", 1, 0, ())), (54, 3, ("move", None, 0, (1,))), (53, 0, ("save", 5, None, (0,)))):
            rows = rows_of(label)
            self.let_by(PROGRAM, with_part(MACHINE, "main", label, rows[:index] + (row,) + rows[index:]), paper_of(*TOLD))

    def test_rows_too_few(self):
        for label in (50, 51, 52, 53, 54):
            rows = rows_of(label)
            for index in range(len(rows)):
                with self.subTest(label=label, index=index):
                    self.wrong(PROGRAM, with_part(MACHINE, "main", label, rows[:index] + rows[index + 1:]), paper_of(*TOLD))

    def test_each_end(self):
        for label, end in ((50, ("branch", 1, 51, 53)), (50, ("branch", 2, 53, 51)), (50, ("branch", 2, 52, 53)), (50, ("branch", 2, 51, 51)), (50, ("branch", 2, 54, 53)), (50, ("branch", 2, 53, 53)),
                           (50, ("jump", 51)), (50, ("jump", 53)), (50, ("give", 2)), (50, ("fail", 1)), (51, ("jump", 53)), (51, ("jump", 54)), (51, ("branch", 0, 52, 52)), (51, ("give", 0)), (51, ("fail", 0)),
                           (52, ("branch", 1, 54, 53)), (52, ("branch", 0, 53, 54)), (52, ("branch", 0, 51, 53)), (52, ("branch", 0, 52, 53)), (52, ("branch", 0, 54, 54)), (52, ("jump", 54)), (53, ("give", 1)),
                           (53, ("jump", 52)), (53, ("fail", 5)), (54, ("jump", 53)), (54, ("jump", 51)), (54, ("branch", 0, 52, 52))):
            with self.subTest(label=label, end=end):
                self.wrong(PROGRAM, with_part(MACHINE, "main", label, end=end), paper_of(*TOLD), ("main", label, len(rows_of(label))))
        fails = main_of((5, (), (), ("fail", 3)))
        self.let_by(fails, (3, (("main", 2, 2, ((1, (), ("fail", 3)),)),)), ("dealt", (((1, 5, -1, ()),),)))
        for end in (("fail", 4), ("fail", -3), ("give", 0)):
            self.wrong(fails, (3, (("main", 2, 2, ((1, (), end),)),)), ("dealt", (((1, 5, -1, ()),),)), ("main", 1, 0))

    def test_carrying_along(self):
        """A name goes by a load, a save and a move, and is left behind in each place."""
        program = main_of((5, (), ((1, "not", None, (0,)), (2, "not", None, (0,)), (3, "not", None, (0,)), (4, "not", None, (0,))), ("give", 4)))
        rows = (("load", 0, 2, ()), ("save", 5, None, (2,)), ("move", None, 1, (2,)), ("not", None, None, (2,)), ("not", None, None, (1,)), ("load", 5, 0, ()), ("not", None, 1, (0,)),
                ("load", 0, 2, ()), ("not", None, 0, (2,)))
        machine = (3, (("main", 2, 6, ((1, rows, ("give", 0)),)),))
        paper = ("dealt", (((1, 5, -1, ((-1, 0),)),),))
        self.let_by(program, machine, paper)
        for index, row in ((1, ("save", 0, None, (1,))), (2, ("move", None, 1, (0,))), (5, ("load", 4, 0, ())), (5, ("load", 1, 0, ())), (7, ("load", 4, 2, ()))):
            self.wrong(program, with_part(machine, "main", 1, rows[:index] + (row,) + rows[index + 1:]), paper)
        # What is overwritten is no longer held.
        for index, row in ((5, ("num", 0, 0, ())), (5, ("load", 1, 5, ()))):
            self.assertIsNotNone(dealt_wrong(program, with_part(machine, "main", 1, rows[:index] + (row,) + rows[index + 1:]), paper))
        self.let_by(program, with_part(machine, "main", 1, rows[:1] + (("move", None, 2, (2,)), ("load", 0, 2, ())) + rows[1:]), paper)

    def test_a_name_written_anew(self):
        """Round a ring 3 is given anew: what held it no longer does."""
        program = main_of((5, (), (), ("jump", 6, (0,))), (6, ((2, 0),), ((3, "not", None, (2,)), (4, "tick", None, ()), (7, "out", None, (3,))), ("branch", 3, 6, (3,), 8, ())), (8, (), (), ("give", 3)))
        rows = (("load", 0, 0, ()), ("not", None, 1, (0,)), ("tick", None, None, ()), ("out", None, None, (1,)), ("save", 2, None, (1,)), ("save", 0, None, (1,)))

        def machine(*rows):
            return (3, (("main", 2, 3, ((1, (), ("jump", 2)), (2, rows, ("branch", 1, 2, 3)), (3, (("load", 2, 0, ()),), ("give", 0)))),))

        def paper(*places):
            return ("dealt", (((1, 5, -1, ((-1, 0),)), (2, 6, -1, ((-1, 2),) + places), (3, 8, -1, ((-3, 3),))),))
        self.let_by(program, machine(*rows), paper())
        # In slot 2 there is the last turn's value: at the block's beginning nobody knows that from the first block.
        self.wrong(program, machine(*rows), paper((-3, 3)), ("main", 1, 0))
        old = rows[:4] + (("load", 2, 1, ()),) + rows[4:]
        self.wrong(program, machine(*old), paper(), ("main", 2, 4))
        turned = main_of((5, (), ((9, "not", None, (0,)),), ("jump", 6, (9,))), (6, ((2, 0),), ((3, "not", None, (2,)), (4, "tick", None, ()), (7, "out", None, (3,))), ("branch", 3, 6, (2,), 8, ())),
                         (8, (), (), ("give", 2)))
        # 2 is held in two places; on the way back by the register it is what its argument is.
        rows = (("not", None, 0, (1,)), ("tick", None, None, ()), ("out", None, None, (0,)))
        made = (3, (("main", 2, 3, ((1, (("load", 0, 0, ()), ("not", None, 1, (0,)), ("save", 1, None, (1,))), ("jump", 2)), (2, rows, ("branch", 0, 2, 3)), (3, (("load", 1, 0, ()),), ("give", 0)))),))
        told = (((1, 5, -1, ((-1, 0),)), (2, 6, -1, ((1, 2), (-2, 2))), (3, 8, -1, ((-2, 2),))),)
        self.let_by(turned, made, ("dealt", told))
        self.wrong(turned, with_part(made, "main", 2, (("not", None, 1, (1,)), rows[1], ("out", None, None, (1,))), ("branch", 1, 2, 3)), ("dealt", told))

    def test_a_place_that_holds_several_names(self):
        program = main_of((5, (), (), ("jump", 6, (0, 0, 90))), (6, ((1, 0), (2, 0), (3, 0)), ((4, "+", None, (1, 2)),), ("give", 4)))
        machine = (3, (("main", 2, 2, ((1, (("load", 0, 0, ()),), ("jump", 2)), (2, (("+", None, 0, (0, 0)),), ("give", 0)))),))
        for places in (((0, 1), (0, 2)), ((0, 2), (0, 1), (-1, 1), (-1, 2)), ((0, 0), (0, 1), (0, 2), (-2, 3), (-2, 90), (-1, 0))):
            self.let_by(program, machine, ("dealt", (((1, 5, -1, ((-1, 0), (-2, 90))), (2, 6, -1, places)),)))
        for places in (((0, 1),), ((0, 1), (-1, 2)), ((0, 2),), ((0, 1), (0, 2), (0, 3)), ((0, 1), (0, 2), (-2, 1))):
            self.wrong(program, machine, ("dealt", (((1, 5, -1, ((-1, 0), (-2, 90))), (2, 6, -1, places)),)))

    def test_the_first_block(self):
        for places in ((), TOLD[0][3][:1], TOLD[0][3][1:], TOLD[0][3][::-1]):
            so = len(places) == 2
            self.assertEqual(so, dealt_wrong(PROGRAM, MACHINE, with_entry(0, places=places)) is None)
        for places in (TOLD[0][3] + ((0, 0),), TOLD[0][3] + ((-3, 0),), ((-1, 90), (-2, 0)), TOLD[0][3] + ((0, 1),), TOLD[0][3] + ((-1, 90),)):
            self.wrong(PROGRAM, MACHINE, with_entry(0, places=places), ("main", 50, -1))
        for parts in ({"block": 7}, {"block": 6}, {"side": 0}, {"side": 1}, {"block": 7, "places": ()}):
            self.wrong(PROGRAM, MACHINE, with_entry(0, **parts), ("main", 50, -1))
        # Another block of the machine for the first one of the middle may be there, but nothing leads to it.
        more = (3, (SAY_MADE, MADE[1][:3] + (MADE[1][3] + ((60,) + MADE[1][3][0][1:],),)))
        self.let_by(PROGRAM, more, paper_of(*TOLD, (60, 5, -1, ((-1, 0), (-2, 90)))))
        self.let_by(PROGRAM, more, paper_of(*TOLD, (60, 5, -1, ((-1, 0), (-2, 90), (0, 14)))))
        self.wrong(PROGRAM, more, paper_of(*TOLD, (60, 5, -1, ((-1, 90), (-2, 0)))))

    def test_sides(self):
        # 53 is led to by the second side; a block for a jump is told at side 0.
        for at, side in ((1, 1), (1, -1), (1, 2), (1, -2), (1, None), (1, "0"), (1, False), (4, 1), (4, -1), (3, 0), (3, 1), (2, 0), (2, 1)):
            with self.subTest(at=at, side=side):
                self.wrong(PROGRAM, MACHINE, with_entry(at, side=side))
        for at, side in ((1, 2), (1, -2), (3, 0), (3, 1)):
            self.wrong(PROGRAM, MACHINE, with_entry(at, side=side), ("main", TOLD[at][0], -1))
        for at, block in ((1, 6), (1, 7), (1, 77), (1, -1), (1, None), (1, "5"), (2, 5), (2, 7), (3, 6), (4, 5), (4, 7)):
            with self.subTest(at=at, block=block):
                self.wrong(PROGRAM, MACHINE, with_entry(at, block=block))
        self.wrong(PROGRAM, MACHINE, with_entry(1, block=77), ("main", 51, -1))
        program = main_of((5, (), (), ("jump", 6, (90,))), (6, ((1, 0),), (), ("give", 1)))
        machine = (3, (("main", 2, 2, ((1, (("load", 1, 0, ()),), ("jump", 2)), (2, (("move", None, 1, (0,)),), ("jump", 3)), (3, (), ("give", 1)))),))

        def paper(side):
            return ("dealt", (((1, 5, -1, ((-1, 0), (-2, 90))), (2, 5, side, ((0, 90),)), (3, 6, -1, ((1, 1),))),))
        self.let_by(program, machine, paper(0))
        self.wrong(program, machine, paper(1), ("main", 2, -1))
        # At the block behind it, what the param is handed is held under its own name no longer.
        self.wrong(program, machine, ("dealt", (paper(0)[1][0][:2] + ((3, 6, -1, ((1, 90),)),),)), ("main", 3, 0))

    def test_blocks_one_behind_another_on_one_way(self):
        program = main_of((5, (), (), ("branch", 0, 6, (90,), 6, (0,))), (6, ((1, 0),), (), ("give", 1)))
        blocks = ((1, (("load", 0, 0, ()), ("load", 1, 1, ())), ("branch", 0, 2, 4)), (2, (("move", None, 2, (1,)),), ("jump", 3)), (3, (("move", None, 0, (2,)),), ("jump", 4)), (4, (), ("give", 0)))
        told = ((1, 5, -1, ((-1, 0), (-2, 90))), (2, 5, 0, ((1, 90),)), (3, 5, 0, ((2, 90),)), (4, 6, -1, ((0, 1),)))
        machine = (3, (("main", 2, 2, blocks),))
        self.let_by(program, machine, ("dealt", (told,)))
        self.run_alike(program, machine)
        self.wrong(program, machine, ("dealt", (told[:2] + ((3, 5, 1, ((2, 90),)),) + told[3:],)), ("main", 2, 1))
        self.wrong(program, with_part(machine, "main", 3, end=("jump", 3)), ("dealt", (told,)), ("main", 3, 1))
        # Straight to the end without what is handed on.
        self.wrong(program, with_part(machine, "main", 1, end=("branch", 0, 4, 4)), ("dealt", (told,)), ("main", 1, 2))

    def test_blocks_on_a_way_have_nothing_but_carrying_rows_and_a_jump(self):
        for row in (("num", 1, 1, ()), ("copy", None, 1, (0,)), ("tick", None, None, ()), ("not", None, None, (0,)), ("call", "say", None, (0,))):
            for index in range(3):
                rows = rows_of(51)
                self.wrong(PROGRAM, with_part(MACHINE, "main", 51, rows[:index] + (row,) + rows[index:]), paper_of(*TOLD), ("main", 51, index))
        for end in (("branch", 0, 52, 52), ("give", 0), ("fail", 3)):
            self.wrong(PROGRAM, with_part(MACHINE, "main", 51, end=end), paper_of(*TOLD), ("main", 51, 2))

    def test_places(self):
        for at, places in ((1, ((-2, 90), (-4, 1), (0, 1), (2, 1))), (1, ((-2, 90), (-4, 1), (0, 1), (1, 2))), (1, ((-2, 90), (-4, 1), (2, 2))), (1, ((-4, 1), (0, 1), (2, 2))), (1, ((-2, 90), (0, 1), (2, 2))),
                           (2, ((-2, 90), (-4, 1), (-5, 11), (-6, 10))), (2, ((-2, 90), (-4, 1), (-5, 10), (-6, 10))), (2, ((-2, 90), (-5, 10), (-6, 11))), (2, ((-4, 1), (-5, 10), (-6, 11))),
                           (2, ((-2, 90), (-4, 1), (-5, 10))), (2, TOLD[2][3] + ((0, 10),)), (2, TOLD[2][3] + ((2, 2),)), (3, ((-1, 90),)), (3, ()), (3, ((-2, 0),)), (3, ((-2, 90), (0, 14))),
                           (4, ((-2, 90), (-4, 1), (1, 14), (0, 11))), (4, ((-2, 90), (-4, 1), (0, 14))), (4, TOLD[4][3] + ((2, 10),))):
            with self.subTest(at=at, places=places):
                self.wrong(PROGRAM, MACHINE, with_entry(at, places=places))
        # More than is wanted may be told.
        self.let_by(PROGRAM, MACHINE, with_entry(1, places=TOLD[1][3] + ((-3, 2), (-1, 0))))
        self.let_by(PROGRAM, MACHINE, with_entry(4, places=TOLD[4][3] + ((2, 1), (-5, 10), (-6, 11))))
        # The very end by whose way a place doesn't hold: 50 knows of 2, 54 doesn't.
        self.wrong(PROGRAM, MACHINE, with_entry(2, places=TOLD[2][3] + ((-3, 2),)), ("main", 51, 2))
        self.wrong(PROGRAM, MACHINE, with_entry(3, places=((-2, 90), (-3, 2))), ("main", 52, 6))

    def test_places_that_are_none(self):
        for place in ((3, 1), (-7, 1), (77, 1), (-77, 1), (0, 77), (0, -1), (0, 0, 0), (0,), (), None, 5, [0, 1], ("0", 1), (0, "1"), (0, None), (None, 1), (True, 1), (0, True), ((0,), 1)):
            with self.subTest(place=place):
                self.wrong(PROGRAM, MACHINE, with_entry(1, places=TOLD[1][3] + (place,)), ("main", 51, -1))
        for places in (None, 0, list(TOLD[1][3]), (0, 1), "", dict(TOLD[1][3])):
            self.wrong(PROGRAM, MACHINE, with_entry(1, places=places), ("main", 51, -1))

    def test_papers(self):
        for paper in NO_PAPERS + (("dealt",), ("dealt", None), ("dealt", ()), ("dealt", []), ("dealt", (SAY_TOLD,)), ("dealt", (TOLD,)), ("dealt", (SAY_TOLD, TOLD, ())), ("ordered", (SAY_TOLD, TOLD)),
                                  ("dealt", [SAY_TOLD, TOLD]), ["dealt", (SAY_TOLD, TOLD)], ("dealt", (SAY_TOLD, TOLD), ())):
            with self.subTest(paper=paper):
                self.wrong(PROGRAM, MACHINE, paper, ("", -1, -1))
        self.wrong(PROGRAM, MACHINE, ("dealt", (TOLD, SAY_TOLD)))
        for told in ((), TOLD[:4], TOLD + TOLD[4:], list(TOLD), None, 5):
            self.wrong(PROGRAM, MACHINE, ("dealt", (SAY_TOLD, told)), ("main", -1, -1))
        for entry in (None, (), TOLD[2][:3], TOLD[2] + ((),), list(TOLD[2]), (51,) + TOLD[2][1:], (None,) + TOLD[2][1:], ("52",) + TOLD[2][1:], (TOLD[2][1], TOLD[2][0]) + TOLD[2][2:]):
            self.wrong(PROGRAM, MACHINE, paper_of(*TOLD[:2], entry, *TOLD[3:]), ("main", 52, -1))
        self.wrong(PROGRAM, MACHINE, paper_of(TOLD[0], TOLD[2], TOLD[1], *TOLD[3:]))
        self.wrong(PROGRAM, MACHINE, paper_of(*TOLD[::-1]))

    def test_functions(self):
        paper = paper_of(*TOLD)
        self.wrong(PROGRAM, (3, MADE[::-1]), paper)
        self.wrong(PROGRAM, (3, MADE[::-1]), ("dealt", (TOLD, SAY_TOLD)))
        self.wrong(PROGRAM, (3, MADE + (("more",) + SAY_MADE[1:],)), paper)
        self.wrong(PROGRAM, (3, MADE + (("more",) + SAY_MADE[1:],)), ("dealt", paper[1] + (SAY_TOLD,)))
        self.wrong(PROGRAM, (3, (("sayy",) + SAY_MADE[1:],) + MADE[1:]), paper)
        self.wrong(PROGRAM, (3, (SAY_MADE, ("main", 1) + MADE[1][2:])), paper, ("main", -1, -1))
        self.wrong(PROGRAM, (3, (SAY_MADE, ("main", 3) + MADE[1][2:])), paper, ("main", -1, -1))
        self.wrong(PROGRAM + (("more", (), 0, ((0, (), ((1, "num", 1, ()),), ("give", 1)),)),), MACHINE, paper)
        one = main_of((5, (), (), ("give", 0)))
        self.wrong(PROGRAM[:1] + one, (3, (SAY_MADE,)), ("dealt", (SAY_TOLD,)))

    def test_what_the_look_refuses(self):
        paper = paper_of(*TOLD)
        self.wrong(PROGRAM, with_row(52, 2, ("out", None, None, (3,))), paper, ("main", 52, 2))
        self.wrong(PROGRAM, with_part(MACHINE, "main", 53, end=("give", 7)), paper, ("main", 53, 1))
        self.wrong(PROGRAM, (9, MADE), paper, ("", -1, -1))
        for machine in (None, (), PROGRAM, (3, ())):
            self.wrong(PROGRAM, machine, paper)

    def test_blocks_to_which_no_way_leads(self):
        program = main_of((5, (), (), ("give", 0)), (6, (), ((1, "+", None, (2, 0)), (2, "num", 1, ())), ("jump", 7, (1,))), (7, ((3, 0),), (), ("give", 3)))
        first = (1, (("load", 0, 0, ()),), ("give", 0))
        self.let_by(program, (3, (("main", 2, 2, (first,)),)), ("dealt", (((1, 5, -1, ((-1, 0),)),),)))
        # They may be there, with whatever is told of their beginning.
        blocks = (first, (2, (("+", None, 1, (2, 0)), ("num", 1, None, ())), ("jump", 3)), (3, (), ("give", 1)))
        told = ((1, 5, -1, ((-1, 0),)), (2, 6, -1, ((2, 2), (0, 0))), (3, 7, -1, ((1, 3),)))
        self.let_by(program, (3, (("main", 2, 2, blocks),)), ("dealt", (told,)))
        self.wrong(program, (3, (("main", 2, 2, blocks),)), ("dealt", (told[:1] + ((2, 6, -1, ((0, 0),)),) + told[2:],)), ("main", 2, 0))

    def test_records_and_lists(self):
        program = main_of((5, (), ((1, "new", 2, ()), (2, "list", None, (0,)), (3, "store", None, (2, 90, 0)), (4, "set", 1, (1, 0)), (6, "copy", None, (1,)), (7, "get", 1, (6,)), (8, "at", None, (2, 90)),
                                   (9, "long", None, (2,))), ("give", 7)))
        rows = (("new", 2, 0, ()), ("save", 2, None, (0,)), ("load", 0, 0, ()), ("list", None, 1, (0,)), ("load", 1, 2, ()), ("store", None, None, (1, 2, 0)), ("load", 2, 1, ()), ("set", 1, None, (1, 0)),
                ("copy", None, 0, (1,)), ("get", 1, 0, (0,)))
        machine = (3, (("main", 2, 3, ((1, rows, ("give", 0)),)),))
        paper = ("dealt", (((1, 5, -1, ((-1, 0), (-2, 90))),),))
        # 8 and 9 aren't there yet; the list went with the record's coming.
        self.wrong(program, machine, paper, ("main", 1, 10))
        rows = rows[:4] + (("save", 0, None, (1,)),) + rows[4:] + (("load", 0, 1, ()), ("at", None, None, (1, 2)), ("long", None, None, (1,)))
        machine = (3, (("main", 2, 3, ((1, rows, ("give", 0)),)),))
        self.let_by(program, machine, paper)
        self.run_alike(program, machine)
        told = rows[:11] + (("at", None, None, (2, 1)),) + rows[12:]
        for other, index in (((("new", 1, 0, ()),) + rows[1:], 0), (rows[:8] + (("set", 0, None, (1, 0)),) + rows[9:], 8)):
            self.wrong(program, with_part(machine, "main", 1, other), paper, ("main", 1, index))
        self.wrong(program, with_part(machine, "main", 1, told), paper)


class TestManyMachines(Dealing):
    def program(self, seed):
        return lower(grown(seed))[0] if seed % 3 == 0 else drawn(seed)

    def test_one_row_or_one_end_alone_is_wrong(self):
        let_by = right = 0
        for seed in range(130):
            chooser = random.Random(seed)
            program = self.program(seed)
            machine, paper = deal(program, 3 + seed % 3)
            for other, place in spoiled_machines(chooser, machine):
                told = dealt_wrong(program, other, paper)
                if told is None:
                    # The paper lets by that one, too, and it runs alike.
                    let_by += 1
                    self.run_alike(program, other, [inputs_for(program, seed)], (0, 1, 4, 20))
                elif told == place:
                    right += 1
                else:
                    self.may_be_mended(program, other, paper, told)
        self.assertGreater(let_by, 1000)
        self.assertGreater(right, 2000)

    def may_be_mended(self, program, machine, paper, place):
        """Another row or end at that place alone makes the machine right, too."""
        title, label, index = place
        function = [function for function in machine[1] if function[0] == title][0]
        rows, end = [block[1:] for block in function[3] if block[0] == label][0]
        registers = range(machine[0])
        if index == len(rows):
            others = [end[:1] + (number,) + end[2:] for number in registers] if end[0] in ("branch", "give") else []
            labels = [block[0] for block in function[3]]
            others += [end[:-1] + (led,) for led in labels] + ([end[:2] + (led, end[3]) for led in labels] if end[0] == "branch" else [])
            machines = [with_part(machine, title, label, rows, other) for other in others]
        else:
            op, told, target, sources = rows[index]
            # All sources are tried by themselves, as many as there are at most.
            choices = [()]
            for source in sources:
                choices = [choice + (number,) for choice in choices for number in (range(function[2]) if op == "call" else registers)]
            others = [(op, told, target, choice) for choice in choices] + [(op, told, number, sources) for number in registers]
            if op in ("load", "save"):
                others += [(op, slot, target, sources) for slot in range(function[2])] + [(op, slot, number, ()) for slot in range(function[2]) for number in registers if op == "load"]
                others += [(op, slot, None, (number,)) for slot in range(function[2]) for number in registers if op == "save"]
            machines = [with_part(machine, title, label, rows[:index] + (other,) + rows[index + 1:]) for other in others]
            machines.append(with_part(machine, title, label, rows[:index] + rows[index + 1:]))
        mended = [other for other in machines if is_machine(other) and dealt_wrong(program, other, paper) is None]
        self.assertTrue(mended, (place, rows, end))

    def test_papers_that_tell_something_else(self):
        let_by = 0
        for seed in range(200):
            chooser = random.Random(seed)
            program = self.program(seed)
            machine, paper = deal(program, 3 + seed % 6)
            for k in range(10):
                other = changed(chooser, paper)
                told = dealt_wrong(program, machine, other)
                if told is not None:
                    self.assertEqual([tuple, str, int, int], [type(told)] + [type(part) for part in told])
                let_by += told is None
        self.assertGreater(let_by, 0)

    def test_papers_and_machines_that_are_something_else(self):
        # Whatever else paper and machine tell: if it is let by, both sides run alike.
        let_by = 0
        for seed in range(150):
            chooser = random.Random(seed)
            program = self.program(seed)
            machine, paper = deal(program, 3)
            for other, place in spoiled_machines(chooser, machine)[::3]:
                for k in range(2):
                    if dealt_wrong(program, other, changed(chooser, paper)) is None:
                        let_by += 1
                        self.run_alike(program, other, [inputs_for(program, seed)], (0, 1, 4, 20))
        self.assertGreater(let_by, 0)


if __name__ == "__main__":
    unittest.main()
