"""Points 3, 25 and 30: any program is dealt, and runs alike."""

import random
import unittest

from drawing import drawn, inputs_for
from growing import grown
from spoiling import main_of
from test_lowering import MAINS, tree_of
from test_passes import PASSES, is_tuples_all_through, program_of

from passpapers.dealing import deal
from passpapers.dealt import dealt_wrong
from passpapers.looks import look_at_middle
from passpapers.lowering import lower
from passpapers.machine import look_at_machine
from passpapers.machrun import machine_run
from passpapers.midrun import middle_run
from passpapers.moving import move_out

REGISTERS = (3, 4, 5, 6, 7, 8)
INPUTS = ([0, 0], [1, 0], [0, 1], [3, 2], [5, -1])


class TestDeal(unittest.TestCase):
    def check(self, program, inputs=INPUTS, registers=REGISTERS, bounds=(0, 1, 2, 3, 7, 25)):
        """Dealt to each of so many registers, it is let by and runs alike; tells the machine of the last."""
        self.assertIsNone(look_at_middle(program))
        for many in registers:
            machine, paper = deal(program, many)
            self.assertIsNone(look_at_machine(machine))
            self.assertIsNone(dealt_wrong(program, machine, paper))
            self.assertTrue(is_tuples_all_through((machine, paper)))
            self.assertEqual(many, machine[0])
            self.assertEqual([(function[0], len(function[1])) for function in program], [made[:2] for made in machine[1]])
            for given in inputs:
                for bound in bounds:
                    self.assertEqual(middle_run(program, given, bound)[:3], machine_run(machine, given, bound)[:3], (many, given, bound))
        return machine

    def test_small_ones(self):
        self.check(main_of((5, (), (), ("give", 0))))
        self.check(main_of((5, (), (), ("give", 90))))
        self.check(main_of((5, (), (), ("fail", 7))))
        self.check((("main", (), 0, ((0, (), ((0, "num", 5, ()),), ("give", 0)),)),), ([],))
        self.check(main_of((5, (), ((1, "-", None, (0, 90)), (2, "-", None, (1, 1)), (3, "+", None, (0, 0))), ("give", 3))))

    def test_every_op(self):
        rows = [(1, "num", 3, ()), (2, "list", None, (1,)), (3, "new", 4, ()), (4, "tick", None, ()), (5, "out", None, (0,)), (6, "copy", None, (2,)), (7, "copy", None, (3,)), (8, "set", 2, (7, 0)),
                (9, "get", 2, (3,)), (10, "num", 1, ()), (11, "store", None, (6, 10, 9)), (12, "at", None, (2, 10)), (13, "long", None, (6,)), (14, "not", None, (12,)), (15, "call", "main", (0, 14))]
        rows += [(20 + at, op, None, (12, 13)) for at, op in enumerate(("+", "-", "*", "/", "rest", "<", "=", "and", "or"))]
        rows += [(40 + at, "out", None, (20 + at,)) for at in range(9)] + [(60, "out", None, (at,)) for at in (14,)]
        start = ((80, "num", 0, ()), (81, "<", None, (0, 80)))
        self.check(main_of((50, (), start, ("branch", 90, 51, (), 52, ())), (51, (), (), ("give", 90)), (52, (), tuple(rows), ("give", 15))))

    def test_many_names_at_once(self):
        for many in (3, 8, 9, 20, 60):
            rows = [(100 + at, "+", None, (0, 90 if at == 0 else 99 + at)) for at in range(many)]
            used = [(300 + at, "-", None, (100 + at, 99 + many - at)) for at in range(many)]
            outs = [(500 + at, "out", None, (300 + at,)) for at in range(many)] + [(700 + at, "out", None, (100 + at,)) for at in range(many)]
            self.check(main_of((5, (), tuple(rows + used + outs), ("give", 100))))

    def test_calls(self):
        def takes(many):
            rows = tuple((10 + at, "out", None, (at,)) for at in range(many)) + ((30, "num", many, ()),)
            return (("none", "one", "two", "three", "four")[many], tuple((at, 0) for at in range(many)), 0, ((0, (), rows, ("give", 30)),))
        others = tuple(takes(many) for many in range(5))
        rows = ((1, "+", None, (0, 90)), (2, "call", "none", ()), (3, "call", "one", (1,)), (4, "call", "two", (3, 0)), (5, "call", "three", (4, 4, 90)), (6, "call", "four", (1, 2, 3, 5)),
                (7, "call", "four", (6, 6, 6, 6)), (8, "+", None, (2, 7)), (9, "out", None, (1,)))
        machine = self.check(others + main_of((5, (), rows, ("give", 8))), bounds=range(9))
        self.assertEqual([0, 1, 2, 3, 4, 2], [made[1] for made in machine[1]])
        # Calls within one another, and a called function that hands on what it was handed.
        down = ("down", ((0, 0), (1, -1)), -1, ((0, (), (), ("branch", 0, 1, (), 2, ())), (1, (), ((2, "num", 1, ()), (3, "-", None, (0, 2)), (4, "store", None, (1, 3, 0)), (5, "call", "down", (3, 1))), ("give", 5)),
                                                (2, (), (), ("give", 1))))
        self.check((down,) + main_of((5, (), ((1, "num", 6, ()), (2, "list", None, (1,)), (3, "call", "down", (0, 2)), (4, "num", 2, ()), (6, "at", None, (3, 4))), ("give", 6))), bounds=(0, 1, 3, 4, 5, 6, 20))

    def test_stores_of_three(self):
        rows = [(1, "num", 5, ()), (2, "list", None, (1,)), (3, "num", 2, ()), (4, "+", None, (0, 90)), (6, "store", None, (2, 3, 4)), (7, "store", None, (2, 1, 1)), (8, "store", None, (2, 3, 3)), (9, "at", None, (2, 3)),
                (10, "out", None, (4,))]
        self.check(main_of((5, (), tuple(rows[:6] + rows[7:]), ("give", 9))))
        self.check(main_of((5, (), tuple(rows), ("give", 9))))

    def test_params_in_rings(self):
        for shift in range(1, 6):
            for many in (2, 3, 4, 5, 7):
                names = [10 + at for at in range(many)]
                turned = tuple(names[shift % many:] + names[:shift % many])
                outs = tuple((50 + at, "out", None, (name,)) for at, name in enumerate(names))
                back = ((80, "tick", None, ()), (81, "num", 1, ()), (82, "-", None, (30, 81)))
                start = tuple((70 + at, "num", at, ()) for at in range(many))
                program = main_of((5, (), start, ("jump", 6, (0,) + tuple(70 + at for at in range(many)))),
                                  (6, ((30, 0),) + tuple((name, 0) for name in names), back + outs, ("branch", 82, 6, (82,) + turned, 7, (names[-1],))), (7, ((90 + 1, 0),), (), ("give", 91)))
                self.check(program, ([4, 0], [-1, 0]), bounds=(0, 1, 2, 5, 9))
                jumped = main_of((5, (), start, ("jump", 6, (0,) + tuple(70 + at for at in range(many)))), (6, ((30, 0),) + tuple((name, 0) for name in names), back + outs, ("branch", 82, 8, (), 7, (names[-1],))),
                                 (7, ((90 + 1, 0),), (), ("give", 91)), (8, (), (), ("jump", 6, (82,) + turned)))
                self.check(jumped, ([4, 0], [-1, 0]), bounds=(0, 1, 2, 5, 9))

    def test_params_handed_on_in_every_way(self):
        # Every function of three params to three of them: swaps, copies, rings, and what stays.
        for code in range(64):
            handed = tuple((10, 11, 12, 90)[code // step % 4] for step in (1, 4, 16))
            rows = ((80, "tick", None, ()), (13, "out", None, (10,)), (14, "out", None, (11,)), (15, "out", None, (12,)), (16, "num", 1, ()), (17, "-", None, (20, 16)))
            program = main_of((5, (), ((1, "num", 1, ()), (2, "num", 2, ())), ("jump", 6, (0, 1, 2, 0))), (6, ((10, 0), (11, 0), (12, 0), (20, 0)), rows, ("branch", 17, 7, (), 8, ())), (7, (), (), ("jump", 6, handed + (17,))),
                              (8, (), (), ("give", 10)))
            self.check(program, ([3, 9],), (3, 4, 8), bounds=(9,))
            straight = main_of((5, (), ((1, "num", 1, ()), (2, "num", 2, ())), ("jump", 6, (0, 1, 2, 0))), (6, ((10, 0), (11, 0), (12, 0), (20, 0)), rows, ("branch", 17, 6, handed + (17,), 8, ())), (8, (), (), ("give", 10)))
            self.check(straight, ([3, 9],), (3, 4, 8), bounds=(9,))

    def test_both_ways_to_one_block(self):
        self.check(main_of((5, (), ((1, "num", 7, ()),), ("branch", 0, 6, (1, 90), 6, (90, 1))), (6, ((2, 0), (3, 0)), ((4, "out", None, (2,)),), ("give", 3))))
        self.check(main_of((5, (), (), ("branch", 0, 6, (0, 90), 6, (0, 90))), (6, ((2, 0), (3, 0)), ((4, "-", None, (2, 3)),), ("give", 4))))
        self.check(main_of((5, (), (), ("branch", 0, 6, (0, 0), 6, (90, 90))), (6, ((2, 0), (3, 0)), ((4, "+", None, (2, 3)),), ("give", 4))))
        # Params that nothing uses.
        machine = self.check(main_of((5, (), (), ("branch", 0, 6, (0, 90), 6, (90, 0))), (6, ((2, 0), (3, 0)), (), ("give", 90))))
        self.assertEqual(2, len(machine[1][0][3]))

    def test_blocks_to_which_no_way_leads(self):
        self.check(main_of((5, (), (), ("give", 0)), (6, (), ((1, "+", None, (2, 0)), (2, "num", 1, ())), ("jump", 7, (1,))), (7, ((3, 0),), ((8, "tick", None, ()),), ("branch", 3, 7, (8,), 6, ()))))
        self.check(main_of((5, (), (), ("jump", 7, (0,))), (6, (), ((1, "copy", None, (3,)),), ("jump", 7, (1,))), (7, ((3, 0),), (), ("give", 3))))

    def test_records_and_lists_handed_on(self):
        program = main_of((5, (), ((1, "new", 2, ()), (2, "new", 2, ()), (3, "list", None, (0,)), (4, "set", 0, (1, 0)), (30, "num", 3, ())), ("jump", 6, (1, 2, 3, 30))),
                          (6, ((10, 2), (11, 2), (12, -1), (13, 0)), ((14, "tick", None, ()), (15, "get", 0, (10,)), (16, "long", None, (12,)), (17, "+", None, (15, 16)), (18, "set", 0, (11, 17)), (19, "out", None, (17,)),
                                                                      (20, "num", 1, ()), (21, "-", None, (13, 20)), (22, "list", None, (21,))), ("branch", 21, 6, (11, 10, 22, 21), 7, (11,))),
                          (7, ((23, 2),), ((24, "get", 0, (23,)),), ("give", 24)))
        self.check(program, ([0, 0], [5, 0], [16, 0], [17, 0]))

    def test_names_and_labels_that_are_far_up(self):
        million = 10 ** 6
        program = (("main", ((million, 0),), 0, ((million, (), (), ("branch", million, 3, (million,), 3, (million,))), (3, ((7, 0),), ((0, "copy", None, (7,)),), ("give", 0)))),)
        machine, paper = deal(program, 3)
        self.assertIsNone(dealt_wrong(program, machine, paper))
        self.assertEqual([], [block[0] for block in machine[1][0][3] if block[0] > million])

    def test_registers_are_made_use_of(self):
        # A sum of many parts: with more registers there is less to load and save.
        rows = tuple((100 + at, "+", None, (0, 90) if at < 8 else (92 + at - 1, 92 + at)) for at in range(20))
        outs = tuple((200 + at, "out", None, (100 + at,)) for at in range(20))
        program = main_of((5, (), rows + outs, ("give", 0)))
        works = [machine_run(deal(program, many)[0], [1, 2], 9)[3] for many in REGISTERS]
        self.assertEqual(sorted(works, reverse=True), works)
        self.assertLess(works[-1], works[0])

    def test_lowered_trees(self):
        for at, main in enumerate(MAINS):
            with self.subTest(main=main):
                self.check(lower(tree_of(main))[0], ([0], [2], [5]), (3, 5, 8))
        for seed in range(120):
            with self.subTest(seed=seed):
                program = lower(grown(seed))[0]
                self.check(program, [inputs_for(program, seed + k) for k in range(2)], (3, 4, 8))

    def test_drawn_programs(self):
        for seed in range(250):
            with self.subTest(seed=seed):
                program = drawn(seed, 12 if seed % 2 else 6)
                self.check(program, [inputs_for(program, seed + k) for k in range(2)], (3, 3 + seed % 6))

    def test_outcomes_of_all_the_passes(self):
        for seed in range(120):
            chooser = random.Random(seed)
            program = program_of(seed)
            words = [chooser.choice(list(PASSES)) for k in range(6)]
            for word in words:
                program = PASSES[word][0](program)[0]
            with self.subTest(seed=seed, words=words):
                self.check(program, [inputs_for(program, seed + k) for k in range(2)], (3, chooser.choice(REGISTERS)))

    def test_large_ones(self):
        """As large as programs may be: 60 blocks, 400 rows, 9000 names."""
        blocks = [(0, (), ((2, "num", 1, ()), (3, "num", 2, ())), ("jump", 1, tuple(2 + at % 2 for at in range(147))))]
        names = {label: [1000 + 150 * label + at for at in range(147)] for label in range(1, 59)}
        for label in range(1, 59):
            own = names[label]
            rows = ((9999 + 10 * label, "tick", None, ()),) + tuple((10000 + 10 * label + at, "-", None, (own[at], own[at + 5])) for at in range(5))
            args = tuple(own[1:] + own[:1])
            end = ("branch", own[0], label + 1, args, 1 if label % 2 else label + 1, args[::-1]) if label < 58 else ("branch", own[0], 1, args, 59, ())
            blocks.append((label, tuple((name, 0) for name in own), rows, end))
        blocks.append((59, (), (), ("give", names[58][3])))
        self.check(main_of(*blocks), ([1, 2],), (3, 8), (0, 1, 70))
        rows = [(100 + at, "num", at, ()) for at in range(200)] + [(300 + at, "+", None, (100 + at, 299 - at)) for at in range(196)]
        params = [1000 + at for at in range(396)]
        self.check(main_of((5, (), tuple(rows), ("jump", 6, tuple(range(100, 496)))),
                           (6, tuple((name, 0) for name in params), ((2000, "tick", None, ()), (2001, "out", None, (params[-1],))), ("branch", params[0], 6, tuple(params[1:] + params[:1]), 7, ())),
                           (7, (), (), ("give", params[50]))), ([1, 2],), (3, 8), (0, 1, 5, 50))

    def test_the_same_is_told_again(self):
        program = drawn(51)
        first = deal(program, 4)
        deal(drawn(52), 4)
        deal(program, 3)
        self.assertEqual(first, deal(drawn(51), 4))
        self.assertEqual(drawn(51), program)

    def test_behind_moves(self):
        for seed in range(40):
            program = move_out(drawn(seed))[0]
            self.check(program, [inputs_for(program, seed)], (3,))


if __name__ == "__main__":
    unittest.main()
