"""Point 11: programs of the middle run."""

import unittest

from passpapers.looks import look_at_middle
from passpapers.midrun import middle_run

SAY = ("say", ((0, 0),), 0, ((0, (), ((1, "out", None, (0,)),), ("give", 0)),))
# Comes to its number by as many calls within one another.
DOWN = ("down", ((0, 0),), 0, (
    (0, (), (), ("branch", 0, 1, (), 2, ())),
    (1, (), ((1, "num", 1, ()), (2, "-", None, (0, 1)), (3, "call", "down", (2,)), (4, "+", None, (3, 1))), ("give", 4)),
    (2, (), (), ("give", 0)),
))


def program_of(*blocks, params=((0, 0),)):
    return (SAY, DOWN, ("main", params, 0, blocks))


def of_rows(*rows, give=0):
    return program_of((0, (), rows, ("give", give)))


class TestMiddleRun(unittest.TestCase):
    def check(self, expected, program, inputs=(5,), bound=100):
        self.assertIsNone(look_at_middle(program))
        self.assertEqual(expected, middle_run(program, list(inputs), bound))

    def test_answers_and_work(self):
        self.check(("answer", 5, (), 1), of_rows())
        self.check(("answer", 7, (), 2), of_rows((1, "num", 7, ()), give=1))
        self.check(("answer", 7, (5, 7, 5), 5), of_rows(
            (1, "num", 7, ()), (2, "out", None, (0,)), (3, "out", None, (1,)), (4, "out", None, (0,)), give=1))
        self.check(("answer", -3, (), 2), (("main", ((4, 0), (2, 0)), 0, (
            (9, (), ((1, "-", None, (4, 2)),), ("give", 1)),)),), (2, 5))

    def test_every_sum(self):
        for op, number in (("+", -5), ("-", -9), ("*", -14), ("/", -4), ("rest", 1), ("<", 1), ("=", 0), ("and", 1), ("or", 1)):
            self.check(("answer", number, (), 3), of_rows((1, "num", 2, ()), (2, op, None, (0, 1)), give=2), (-7,))
        self.check(("answer", 0, (), 2), of_rows((1, "not", None, (0,)), give=1))
        self.check(("answer", 1, (), 2), of_rows((1, "not", None, (0,)), give=1), (0,))
        self.check(("answer", -32768, (), 3), of_rows((1, "num", 1, ()), (2, "+", None, (0, 1)), give=2), (32767,))

    def test_set_store_out_and_tick_give_nought(self):
        for row in (("set", 1, (2, 0)), ("store", None, (3, 1, 0)), ("out", None, (0,)), ("tick", None, ())):
            told = middle_run(of_rows((1, "num", 1, ()), (2, "new", 2, ()), (3, "list", None, (0,)), (4,) + row, give=4), [5], 9)
            self.assertEqual(("answer", 0), told[:2])
            self.assertEqual(5, told[3])

    def test_records_and_lists(self):
        self.check(("answer", 5, (0, 0, 5), 9), of_rows(
            (1, "new", 2, ()), (2, "copy", None, (1,)), (3, "get", 1, (2,)), (4, "out", None, (3,)), (5, "set", 1, (2, 0)),
            (6, "out", None, (5,)), (7, "get", 1, (1,)), (8, "out", None, (7,)), give=7))
        self.check(("answer", 5, (3, 0), 10), of_rows(
            (1, "num", 3, ()), (2, "list", None, (1,)), (3, "long", None, (2,)), (4, "out", None, (3,)), (5, "num", 2, ()),
            (6, "at", None, (2, 5)), (7, "out", None, (6,)), (8, "store", None, (2, 5, 0)), (9, "at", None, (2, 5)), give=9))

    def test_faults(self):
        for rows, fault in (
                (((1, "num", 0, ()), (2, "/", None, (0, 1))), "nought"),
                (((1, "num", 0, ()), (2, "rest", None, (0, 1))), "nought"),
                (((1, "num", -1, ()), (2, "list", None, (1,))), "size"),
                (((1, "num", 17, ()), (2, "list", None, (1,))), "size"),
                (((1, "list", None, (0,)), (2, "at", None, (1, 0))), "range"),
                (((1, "list", None, (0,)), (2, "store", None, (1, 0, 0))), "range")):
            self.check(("fault", fault, (5,), 3), of_rows((8, "out", None, (0,)), *rows, (9, "out", None, (0,))))
        for number in (0, 7, -3):
            self.check(("fault", f"fail {number}", (5,), 2), program_of((0, (), ((8, "out", None, (0,)),), ("fail", number))))
        self.check(("fault", "range", (), 4), of_rows(
            (1, "num", -1, ()), (2, "num", 3, ()), (3, "list", None, (2,)), (4, "at", None, (3, 1))))
        self.check(("answer", 16, (), 4), of_rows((1, "num", 16, ()), (2, "list", None, (1,)), (3, "long", None, (2,)), give=3))

    def test_branches(self):
        program = program_of((0, (), (), ("branch", 0, 1, (), 2, ())), (1, (), ((1, "num", 10, ()),), ("give", 1)),
                             (2, (), ((2, "num", 20, ()), (3, "num", 30, ())), ("give", 3)))
        for number, expected in ((5, ("answer", 10, (), 3)), (1, ("answer", 10, (), 3)), (-1, ("answer", 10, (), 3)),
                                 (0, ("answer", 30, (), 4))):
            self.check(expected, program, (number,))

    def test_params_get_their_values_all_at_once(self):
        program = program_of(
            (0, (), ((1, "num", 1, ()), (2, "num", 2, ()), (3, "num", 3, ())), ("jump", 1, (1, 2, 3, 0))),
            (1, ((10, 0), (11, 0), (12, 0), (13, 0)),
             ((20, "tick", None, ()), (21, "out", None, (10,)), (22, "out", None, (11,)), (23, "out", None, (12,)),
              (24, "num", 1, ()), (25, "-", None, (13, 24))),
             ("branch", 25, 1, (11, 12, 10, 25), 2, ())),
            (2, (), (), ("give", 11)))
        self.check(("answer", 1, (1, 2, 3, 2, 3, 1, 3, 1, 2), 4 + 3 * 7 + 1), program, (3,))

    def test_ticks(self):
        program = of_rows((1, "tick", None, ()), (2, "out", None, (0,)), (3, "tick", None, ()), (4, "out", None, (0,)))
        self.check(("more", None, (), 1), program, bound=0)
        self.check(("more", None, (5,), 3), program, bound=1)
        self.check(("answer", 5, (5, 5), 5), program, bound=2)
        self.check(("answer", 5, (5, 5), 5), program, bound=3)

    def test_calls(self):
        program = of_rows((1, "call", "say", (0,)), (2, "num", 8, ()), (3, "call", "say", (2,)), (4, "+", None, (1, 3)), give=4)
        self.check(("more", None, (), 1), program, bound=0)
        self.check(("more", None, (5,), 5), program, bound=1)
        self.check(("answer", 13, (5, 8), 9), program, bound=2)

    def test_a_fault_within_a_call(self):
        bad = ("bad", (), -1, ((0, (), ((1, "num", 99, ()), (2, "list", None, (1,))), ("give", 2)),))
        program = (bad,) + of_rows((1, "out", None, (0,)), (2, "call", "bad", ()), (3, "long", None, (2,)), give=3)
        self.check(("fault", "size", (5,), 4), program)

    def test_names_are_each_call_s_own(self):
        self.check(("answer", 6, (), 2 + 2 + 6 * 6), program_of((0, (), ((9, "call", "down", (0,)),), ("give", 9))), (6,))

    def test_calls_some_thousand_deep(self):
        program = program_of((0, (), ((9, "call", "down", (0,)),), ("give", 9)))
        self.check(("answer", 4999, (), 2 + 2 + 6 * 4999), program, (4999,), 5000)
        self.check(("more", None, (), 1 + 4 * 5000), program, (5000,), 5000)
        self.check(("more", None, (), 1 + 4 * 5000), program, (-1,), 5000)

    def test_names_and_labels_may_be_any(self):
        million = 10 ** 6
        self.check(("answer", 5, (), 3), (("main", ((million, 0),), 0, (
            (million, (), (), ("jump", 3, (million,))), (3, ((7, 0),), ((0, "copy", None, (7,)),), ("give", 0)))),))

    def test_what_is_handed_in_stays_and_the_same_is_told_again(self):
        program = of_rows((1, "new", 1, ()), (2, "set", 0, (1, 0)), (3, "get", 0, (1,)), give=3)
        inputs = [5]
        first = middle_run(program, inputs, 3)
        middle_run(of_rows((1, "tick", None, ())), [1], 0)
        self.assertEqual([5], inputs)
        self.assertEqual(("answer", 5, (), 4), first)
        self.assertEqual(first, middle_run(program, inputs, 3))
        self.assertIs(tuple, type(first[2]))


if __name__ == "__main__":
    unittest.main()
