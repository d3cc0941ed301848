"""Points 12, 31 and 32: rows ordered."""

import itertools
import random
import unittest

from drawing import drawn, inputs_for
from growing import grown
from machspoiling import is_machine, spoiled_machines, with_part
from spoiling import NO_PAPERS, changed
from test_delays import random_delays, random_rows, writes

from passpapers.dealing import deal
from passpapers.delays import ticks_of
from passpapers.lowering import lower
from passpapers.machine import look_at_machine
from passpapers.machrun import machine_run
from passpapers.ordered import ordered_wrong
from passpapers.ordering import order_rows

FREE = ("num", "copy", "not", "+", "-", "*", "<", "=", "and", "or", "load", "save", "move")
TWO = ("two", 2, 2, ((0, (("load", 0, 0, ()), ("out", None, None, (0,))), ("give", 0)),))


def machine_of(*blocks):
    return (3, (TWO, ("main", 1, 4, blocks)))


def of_rows(*rows):
    return machine_of((5, rows, ("give", 0)))


def paper_of(*orders):
    return ("ordered", (((0, 1),), orders))


def reads(row):
    op, told, target, sources = row
    return [("slot", told)] if op == "load" else [("slot" if op == "call" else "register", source) for source in sources]


def may_be_exchanged(one, other):
    if writes(one) in reads(other) or writes(other) in reads(one):
        return False
    if writes(one) is not None and writes(one) == writes(other):
        return False
    return one[0] in FREE or other[0] in FREE


class Ordering(unittest.TestCase):
    def let_by(self, before, after, paper):
        self.assertIsNone(look_at_machine(before))
        self.assertIsNone(ordered_wrong(before, after, paper))

    def wrong(self, before, after, paper, place=None):
        self.assertIsNone(look_at_machine(before))
        told = ordered_wrong(before, after, paper)
        self.assertIsNotNone(told)
        self.assertEqual([tuple, str, int, int], [type(told)] + [type(part) for part in told])
        if place is not None:
            self.assertEqual(place, told)
        return told


class TestOrderedWrong(Ordering):
    ROWS = (("load", 0, 0, ()), ("num", 5, 1, ()), ("+", None, 2, (0, 1)), ("out", None, None, (2,)), ("num", 7, 0, ()))

    def test_let_by(self):
        before = of_rows(*self.ROWS)
        self.let_by(before, before, paper_of((0, 1, 2, 3, 4)))
        for order in ((1, 0, 2, 3, 4), (1, 0, 2, 4, 3), (0, 1, 2, 4, 3)):
            after = of_rows(*(self.ROWS[number] for number in order))
            self.let_by(before, after, paper_of(order))
            for inputs in ([0], [9]):
                self.assertEqual(machine_run(before, inputs, 5), machine_run(after, inputs, 5))

    def test_each_pair_of_rows(self):
        rows = set()
        for seed in range(120):
            rows.update(random_rows(random.Random(seed), 4))
        rows |= {("new", 2, 0, ()), ("list", None, 1, (1,)), ("long", None, 2, (2,)), ("at", None, 0, (1, 1)), ("rest", None, 1, (2, 2)), ("-", None, 1, (2, 2)), ("<", None, 1, (2, 2)),
                 ("=", None, 1, (2, 2)), ("and", None, 1, (2, 2)), ("or", None, 1, (2, 2)), ("long", None, None, (0,)), ("new", 1, None, ()), ("tick", None, None, ())}
        chooser = random.Random(1)
        rows = sorted(rows, key=repr)
        pairs = [(one, other) for one in rows for other in rows]
        for one, other in chooser.sample(pairs, 4000):
            told = ordered_wrong(of_rows(one, other), of_rows(other, one), paper_of((1, 0)))
            self.assertEqual(may_be_exchanged(one, other), told is None, (one, other))
            self.assertIn(told, (None, ("main", 5, 0), ("main", 5, 1)))
        ops = {row[0] for row in rows}
        self.assertEqual(set(FREE) | {"new", "get", "set", "list", "long", "at", "store", "out", "tick", "call", "/", "rest"}, ops)

    def test_what_may_be_exchanged(self):
        num, out, other = ("num", 1, 0, ()), ("out", None, None, (1,)), ("num", 1, 2, ())
        for one, two, so in ((num, out, True), (num, ("out", None, None, (0,)), False), (num, ("num", 1, 0, ()), False), (num, other, True), (out, out, False), (out, ("tick", None, None, ()), False),
                             (("get", 0, 0, (1,)), ("get", 0, 2, (1,)), False), (("new", 1, 0, ()), ("new", 1, 1, ()), False), (("long", None, 0, (1,)), out, False), (("long", None, 0, (1,)), other, True),
                             (("/", None, 0, (1, 1)), ("rest", None, 2, (1, 1)), False), (("/", None, 0, (1, 1)), ("+", None, 2, (1, 1)), True), (("/", None, 0, (1, 1)), ("+", None, 1, (2, 2)), False),
                             (("save", 1, None, (0,)), ("load", 1, 1, ()), False), (("save", 1, None, (0,)), ("load", 2, 1, ()), True), (("save", 1, None, (0,)), ("save", 1, None, (1,)), False),
                             (("save", 1, None, (0,)), ("save", 2, None, (0,)), True), (("save", 1, None, (0,)), ("call", "two", 1, (1, 2)), False),
                             (("save", 1, None, (0,)), ("call", "two", 1, (0, 2)), True), (("save", 1, None, (0,)), ("call", "two", 0, (0, 2)), False),
                             (("move", None, 0, (1,)), ("move", None, 1, (0,)), False), (("move", None, 0, (1,)), ("move", None, 2, (1,)), True), (("copy", None, 0, (1,)), ("call", "two", None, (0, 1)), True),
                             (("load", 1, 0, ()), ("load", 1, 1, ()), True), (("load", 1, 0, ()), ("load", 2, 0, ()), False), (("num", 1, None, ()), ("num", 2, None, ()), True)):
            with self.subTest(one=one, two=two):
                for rows in ((one, two), (two, one)):
                    if so:
                        self.let_by(of_rows(*rows), of_rows(*rows[::-1]), paper_of((1, 0)))
                    else:
                        self.wrong(of_rows(*rows), of_rows(*rows[::-1]), paper_of((1, 0)))

    def test_each_order_of_some_rows(self):
        for seed in range(60):
            rows = random_rows(random.Random(seed), 4)
            before = of_rows(*rows)
            for order in itertools.permutations(range(4)):
                after = of_rows(*(rows[number] for number in order))
                so = all(may_be_exchanged(rows[one], rows[two]) for at, two in enumerate(order) for one in order[at + 1:] if one < two)
                told = ordered_wrong(before, after, paper_of(order))
                self.assertEqual(so, told is None, (rows, order))
                if so:
                    for bound in (0, 1, 2, 9):
                        self.assertEqual(machine_run(before, [5], bound)[:3], machine_run(after, [5], bound)[:3])
                else:
                    # A row that is told stands otherwise to some row than it may.
                    place = told[2]
                    self.assertEqual(("main", 5), told[:2])
                    ahead = [(rows[other], rows[order[place]]) for other in order[:place] if other > order[place]]
                    behind = [(rows[other], rows[order[place]]) for other in order[place + 1:] if other < order[place]]
                    self.assertFalse(all(may_be_exchanged(*pair) for pair in ahead + behind), (rows, order, place))

    def test_one_row_alone_out_of_its_order(self):
        # The third row reads what the first one writes.
        rows = (("num", 5, 0, ()), ("num", 6, 1, ()), ("out", None, None, (0,)), ("num", 7, 2, ()))
        for order, index in (((1, 2, 0, 3), 2), ((2, 0, 1, 3), 0), ((1, 2, 3, 0), 3)):
            self.wrong(of_rows(*rows), of_rows(*(rows[number] for number in order)), paper_of(order), ("main", 5, index))

    def test_each_row_and_end(self):
        before = of_rows(*self.ROWS)
        for order in ((0, 1, 2, 3, 4), (1, 0, 2, 4, 3)):
            rows = tuple(self.ROWS[number] for number in order)
            for index in range(5):
                for row in (("num", 9, 1, ()), ("num", 5, 2, ()), ("load", 1, 0, ()), ("load", 0, 1, ()), ("+", None, 2, (1, 0)), ("-", None, 2, (0, 1)), ("tick", None, None, ()), ("out", None, None, (1,)),
                            ("out", None, 2, (2,)), ("save", 0, None, (0,))):
                    if row != rows[index]:
                        self.wrong(before, of_rows(*rows[:index], row, *rows[index + 1:]), paper_of(order), ("main", 5, index))
            for index in range(6):
                for row in (("num", 9, 1, ()), ("tick", None, None, ()), ("save", 3, None, (0,))):
                    self.wrong(before, of_rows(*rows[:index], row, *rows[index:]), paper_of(order), ("main", 5, index))
            for index in range(5):
                self.wrong(before, of_rows(*rows[:index], *rows[index + 1:]), paper_of(order))
            for end in (("give", 1), ("fail", 3)):
                self.wrong(before, machine_of((5, rows, end)), paper_of(order), ("main", 5, 5))
        # Of two alike, one of them too many, either may be told.
        self.wrong(before, of_rows(self.ROWS[0], *self.ROWS), paper_of((0, 1, 2, 3, 4)), ("main", 5, 1))

    def test_orders_that_are_none(self):
        before = of_rows(*self.ROWS)
        for order in ((0, 1, 2, 3), (0, 1, 2, 3, 4, 5), (0, 1, 2, 3, 3), (1, 1, 2, 3, 4), (0, 1, 2, 3, 5), (-1, 1, 2, 3, 4), (0, 1, 2, 3, 4, 4), (), [0, 1, 2, 3, 4], None, 5, (0, 1, 2, 3, "4"), (0, 1, 2, 3, None),
                      (False, 1, 2, 3, 4), (0, True, 2, 3, 4), (0, 1, 2, 3, (4,)), ((0, 1, 2, 3, 4),)):
            with self.subTest(order=order):
                self.wrong(before, before, paper_of(order), ("main", 5, -1))
        # A row of another block.
        two = machine_of((5, self.ROWS[:2], ("jump", 6)), (6, self.ROWS[2:], ("give", 0)))
        self.let_by(two, two, paper_of((0, 1), (0, 1, 2)))
        moved = machine_of((5, self.ROWS[:3], ("jump", 6)), (6, self.ROWS[3:], ("give", 0)))
        for orders in (((0, 1), (0, 1, 2)), ((0, 1, 2), (0, 1)), ((0, 1, 2), (3, 4)), ((0, 1, 0), (1, 2))):
            self.wrong(two, moved, paper_of(*orders))

    def test_blocks_and_functions(self):
        before = machine_of((5, self.ROWS[:2], ("jump", 6)), (6, self.ROWS[2:], ("give", 0)))
        paper = paper_of((0, 1), (0, 1, 2))
        blocks = before[1][1][3]
        self.wrong(before, machine_of(*blocks[::-1]), paper)
        self.wrong(before, machine_of(*blocks[::-1]), paper_of((0, 1, 2), (0, 1)))
        self.wrong(before, machine_of(*blocks, (7, (), ("give", 0))), paper)
        self.wrong(before, machine_of(*blocks, (7, (), ("give", 0))), paper_of((0, 1), (0, 1, 2), ()))
        self.wrong(before, machine_of((5, self.ROWS[:2], ("give", 0))), paper)
        self.wrong(before, machine_of((5, self.ROWS[:2], ("jump", 7)), (7, self.ROWS[2:], ("give", 0))), paper)
        self.wrong(before, machine_of((5, self.ROWS[:2], ("branch", 0, 6, 6)), blocks[1]), paper, ("main", 5, 2))
        self.wrong(before, (4, before[1]), paper, ("", -1, -1))
        self.wrong(before, (3, before[1][::-1]), paper)
        self.wrong(before, (3, before[1][1:]), paper)
        self.wrong(before, (3, before[1] + (("more",) + TWO[1:],)), paper)
        for head in (("mian", 1, 4), ("main", 0, 4), ("main", 2, 4), ("main", 1, 5)):
            self.wrong(before, (3, (TWO, head + (blocks,))), paper)
        self.wrong(before, (3, (TWO, ("main", 1, 5, blocks))), paper, ("main", -1, -1))
        self.wrong(before, (3, (("two", 2, 3, TWO[3]), before[1][1])), paper, ("two", -1, -1))

    def test_papers(self):
        before = of_rows(*self.ROWS)
        order = (0, 1, 2, 3, 4)
        for paper in NO_PAPERS + (("ordered",), ("ordered", None), ("ordered", ()), ("ordered", []), ("ordered", (((0, 1),),)), ("dealt", paper_of(order)[1]), paper_of(order) + ((),), list(paper_of(order)),
                                  ("ordered", list(paper_of(order)[1])), ("ordered", paper_of(order)[1] + ((),))):
            with self.subTest(paper=paper):
                self.wrong(before, before, paper, ("", -1, -1))
        for told in ((), (order, order), None, [order], 0, order):
            self.wrong(before, before, ("ordered", (((0, 1),), told)))
        self.wrong(before, before, ("ordered", (((0, 1),), (order, ()))), ("main", -1, -1))
        self.wrong(before, before, ("ordered", paper_of(order)[1][::-1]))

    def test_what_the_look_refuses(self):
        before = of_rows(*self.ROWS)
        paper = paper_of((0, 1, 2, 3, 4))
        self.wrong(before, of_rows(*self.ROWS[:3], ("out", None, None, (3,)), self.ROWS[4]), paper, ("main", 5, 3))
        self.wrong(before, machine_of((5, self.ROWS, ("give", 3))), paper, ("main", 5, 5))
        for after in (None, (), (3, ()), before[1]):
            self.wrong(before, after, paper)

    def test_one_row_or_one_end_alone_is_wrong(self):
        for seed in range(80):
            chooser = random.Random(seed)
            machine = deal(drawn(seed), 3 + seed % 6)[0]
            outcome, paper = order_rows(machine, random_delays(chooser))
            for other, place in spoiled_machines(chooser, outcome):
                told = ordered_wrong(machine, other, paper)
                if told != place:
                    # Two rows alike stand side by side, one of them too many.
                    rows = [block[1] for function in other[1] if function[0] == place[0] for block in function[3] if block[0] == place[1]][0]
                    self.assertEqual(place[:2], told[:2])
                    self.assertEqual({rows[place[2]]}, set(rows[place[2]:told[2] + 1]))

    def test_papers_that_tell_something_else(self):
        let_by = 0
        for seed in range(150):
            chooser = random.Random(seed)
            program = drawn(seed)
            machine = deal(program, 3 + seed % 6)[0]
            outcome, paper = order_rows(machine, random_delays(chooser))
            for k in range(6):
                other, after = changed(chooser, paper), chooser.choice((outcome, machine))
                if ordered_wrong(machine, after, other) is None:
                    let_by += 1
                    for bound in (0, 1, 5):
                        inputs = inputs_for(program, seed + bound)
                        self.assertEqual(machine_run(machine, inputs, bound)[:3], machine_run(after, inputs, bound)[:3])
        self.assertGreater(let_by, 0)


class TestOrderRows(Ordering):
    def check(self, machine, delays, inputs=()):
        outcome, paper = order_rows(machine, delays)
        self.let_by(machine, outcome, paper)
        better = 0
        for function, other in zip(machine[1], outcome[1]):
            self.assertEqual(function[:3], other[:3])
            for block, there in zip(function[3], other[3]):
                self.assertLessEqual(ticks_of(there[1], delays), ticks_of(block[1], delays))
                better += ticks_of(there[1], delays) < ticks_of(block[1], delays)
        for given in inputs:
            for bound in (0, 1, 2, 7, 30):
                self.assertEqual(machine_run(machine, given, bound)[:3], machine_run(outcome, given, bound)[:3])
        return outcome, better

    def test_better(self):
        rows = (("load", 0, 0, ()), ("not", None, 1, (0,)), ("load", 1, 2, ()), ("not", None, 0, (2,)))
        outcome, better = self.check(of_rows(*rows), {"load": 5})
        self.assertEqual(1, better)
        self.assertEqual(7, ticks_of(outcome[1][1][3][0][1], {"load": 5}))

    def test_nothing_to_order(self):
        for rows in ((), (("num", 1, 0, ()),), (("out", None, None, (0,)), ("tick", None, None, ()), ("out", None, None, (1,)))):
            machine = of_rows(*rows)
            self.assertEqual((machine, ("ordered", (((0, 1),), (tuple(range(len(rows))),)))), order_rows(machine, {"num": 4}))

    def test_delays_of_all_of_none_and_of_some(self):
        better = 0
        for seed in range(150):
            chooser = random.Random(seed)
            program = lower(grown(seed))[0] if seed % 3 == 0 else drawn(seed)
            machine = deal(program, 3 + seed % 6)[0]
            inputs = [inputs_for(program, seed)]
            ops = {row[0] for function in machine[1] for block in function[3] for row in block[1]}
            for delays in ({}, {op: chooser.randint(1, 9) for op in sorted(ops)}, random_delays(chooser), {op: 9 for op in ops}):
                outcome, more = self.check(machine, delays, inputs)
                better += more
                again, more = self.check(outcome, delays)
                self.check(again, {"load": 9})
        self.assertGreater(better, 500)

    def test_drawn_rows(self):
        for seed in range(200):
            chooser = random.Random(seed)
            self.check(of_rows(*random_rows(chooser, chooser.randint(0, 40))), random_delays(chooser), [[5]])

    def test_many_rows(self):
        rows = random_rows(random.Random(1), 6000)
        outcome, better = self.check(of_rows(*rows), {"load": 7, "+": 3, "*": 9})
        self.assertEqual(1, better)
        self.assertTrue(is_machine(with_part(outcome, "main", 5, rows)))

    def test_the_same_is_told_again(self):
        machine = deal(drawn(41), 3)[0]
        delays = {"load": 4, "+": 2}
        first = order_rows(machine, delays)
        order_rows(deal(drawn(42), 3)[0], {})
        self.assertEqual(first, order_rows(deal(drawn(41), 3)[0], dict(delays)))
        self.assertEqual(({"load": 4, "+": 2}, deal(drawn(41), 3)[0]), (delays, machine))


if __name__ == "__main__":
    unittest.main()
