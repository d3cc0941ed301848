"""Point 27: machines run."""

import unittest

from passpapers.machine import look_at_machine
from passpapers.machrun import machine_run

# Comes to its number by as many calls within one another.
DOWN = ("down", 1, 2, (
    (0, (("load", 0, 0, ()),), ("branch", 0, 1, 2)),
    (1, (("num", 1, 1, ()), ("-", None, 2, (0, 1)), ("save", 1, None, (2,)), ("call", "down", 0, (1,)), ("num", 1, 1, ()), ("+", None, 0, (0, 1))), ("give", 0)),
    (2, (), ("give", 0))))
SAY = ("say", 1, 1, ((0, (("load", 0, 0, ()), ("out", None, None, (0,))), ("give", 0)),))
PAIR = ("pair", 0, 0, ((0, (("new", 2, 1, ()),), ("give", 1)),))
SOME = ("some", 1, 1, ((0, (("load", 0, 0, ()), ("list", None, 1, (0,))), ("give", 1)),))
HIGHEST = 9999


def machine_of(*blocks, registers=4, count=1, slots=10):
    return (registers, (DOWN, SAY, PAIR, SOME, ("main", count, slots, blocks)))


def of_rows(*rows, give=0):
    return machine_of((0, rows, ("give", give)))


LOAD = ("load", 0, 0, ())
OUT = ("out", None, None, (0,))
RECORD = ("new", 2, 2, ())
LIST = (("num", 3, 3, ()), ("list", None, 3, (3,)))


class TestMachineRun(unittest.TestCase):
    def check(self, expected, machine, inputs=(5,), bound=100):
        self.assertIsNone(look_at_machine(machine))
        self.assertEqual(expected, machine_run(machine, list(inputs), bound))

    def test_answers_and_work(self):
        self.check(("answer", 0, (), 1), of_rows())
        self.check(("answer", 5, (), 2), of_rows(LOAD))
        self.check(("answer", 5, (5, 5), 4), of_rows(LOAD, OUT, OUT))
        self.check(("answer", 7, (), 4), of_rows(("num", 7, 1, ()), ("save", 9, None, (1,)), ("load", 9, 3, ()), give=3))
        self.check(("answer", 7, (), 3), of_rows(("num", 7, 1, ()), ("move", None, 2, (1,)), give=2))
        self.check(("answer", 7, (), 3), of_rows(("num", 7, 1, ()), ("copy", None, 2, (1,)), give=2))
        self.check(("answer", -3, (), 4), machine_of((9, (("load", 0, 1, ()), ("load", 1, 2, ()), ("-", None, 1, (1, 2))), ("give", 1)), count=2), (2, 5))

    def test_every_sum(self):
        for op, number in (("+", -5), ("-", -9), ("*", -14), ("/", -4), ("rest", 1), ("<", 1), ("=", 0), ("and", 1), ("or", 1)):
            self.check(("answer", number, (), 4), of_rows(LOAD, ("num", 2, 1, ()), (op, None, 3, (0, 1)), give=3), (-7,))
        self.check(("answer", 0, (), 3), of_rows(LOAD, ("not", None, 1, (0,)), give=1))
        self.check(("answer", 1, (), 3), of_rows(LOAD, ("not", None, 0, (0,))), (0,))
        self.check(("answer", -32768, (), 4), of_rows(LOAD, ("num", 1, 1, ()), ("+", None, 0, (0, 1))), (32767,))

    def test_registers_and_slots_are_0_at_first(self):
        self.check(("answer", 0, (0, 0, 0), 8), of_rows(("out", None, None, (3,)), ("load", 9, 1, ()), ("out", None, None, (1,)), ("load", 1, 2, ()), ("out", None, None, (2,)), LOAD, ("num", 0, 0, ())))
        self.check(("answer", 0, (), 1), (8, (("main", 0, 0, ((0, (), ("give", 7)),)),)), ())
        self.check(("answer", 0, (), 2), (8, (("main", 0, 10000, ((0, (("load", HIGHEST, 7, ()),), ("give", 7)),)),)), ())

    def test_each_call_has_its_own(self):
        # The called function leaves its marks in all registers and slots, and finds none.
        mark = ("mark", 1, 3, ((0, (("load", 1, 0, ()), OUT, ("load", 2, 0, ()), OUT, ("out", None, None, (1,)), ("out", None, None, (2,)), ("num", 9, 0, ()), ("num", 8, 1, ()), ("num", 7, 2, ()),
                                    ("save", 0, None, (0,)), ("save", 1, None, (1,)), ("save", 2, None, (2,))), ("give", 2)),))
        rows = (("num", 4, 0, ()), ("num", 5, 1, ()), ("num", 6, 2, ()), ("save", 1, None, (1,)), ("save", 2, None, (2,)), ("call", "mark", 3, (2,)), OUT, ("out", None, None, (1,)),
                ("out", None, None, (2,)), ("load", 1, 0, ()), OUT, ("load", 2, 0, ()), OUT, LOAD, OUT, ("call", "mark", 3, (2,)))
        machine = (4, (mark, ("main", 1, 3, ((0, rows, ("give", 3)),))))
        self.check(("answer", 7, (0, 0, 0, 0, 4, 5, 6, 5, 6, 11, 0, 0, 0, 0), 17 + 2 * 13), machine, (11,))

    def test_a_target_none(self):
        self.check(("answer", 5, (), 3), of_rows(LOAD, ("num", 7, None, ())))
        self.check(("answer", 5, (5,), 6), of_rows(LOAD, ("call", "say", None, (0,))))
        self.check(("fault", "nought", (), 2), of_rows(LOAD, ("/", None, None, (0, 3))))

    def test_set_store_out_and_tick_give_nought(self):
        for row in (("set", 1, 0, (2, 0)), ("store", None, 0, (3, 0, 0)), ("out", None, 0, (0,)), ("tick", None, 0, ())):
            told = machine_run(of_rows(("num", 2, 0, ()), RECORD, *LIST, row), [5], 9)
            self.assertEqual(("answer", 0, 6), (told[0], told[1], told[3]))

    def test_records_and_lists_as_such(self):
        rows = (LOAD, ("new", 2, 1, ()), ("move", None, 2, (1,)), ("get", 1, 3, (2,)), ("out", None, None, (3,)), ("set", 1, 3, (2, 0)), ("out", None, None, (3,)), ("get", 1, 3, (1,)))
        self.check(("answer", 5, (0, 0), 9), of_rows(*rows, give=3))
        rows = (LOAD, ("new", 4, 1, ()), ("save", 3, None, (1,)), ("set", 3, None, (1, 0)), ("load", 3, 2, ()), ("get", 3, 3, (2,)))
        self.check(("answer", 5, (), 7), of_rows(*rows, give=3))
        rows = (LOAD,) + LIST + (("num", 2, 1, ()), ("store", None, None, (3, 1, 0)), ("copy", None, 2, (3,)), ("long", None, 0, (2,)), OUT, ("at", None, 0, (2, 1)))
        self.check(("answer", 5, (3,), 10), of_rows(*rows))
        self.check(("answer", 0, (), 1 + 2 + 1 + 1), of_rows(("call", "pair", 0, ()), ("get", 1, 0, (0,))))
        self.check(("answer", 5, (), 1 + 3 + 1 + 1), of_rows(("call", "some", 0, (0,)), ("long", None, 0, (0,))))

    def test_what_counts_as_nought(self):
        for made in ((RECORD, ("move", None, 1, (2,))), (LIST[0], LIST[1], ("move", None, 1, (3,)))):
            ahead = (LOAD,) + made
            for row, number in ((("+", None, 0, (0, 1)), 5), (("-", None, 0, (1, 0)), -5), (("*", None, 0, (0, 1)), 0), (("<", None, 0, (1, 0)), 1), (("=", None, 0, (1, 1)), 1), (("=", None, 0, (1, 0)), 0),
                                (("and", None, 0, (0, 1)), 0), (("or", None, 0, (0, 1)), 1), (("or", None, 0, (1, 1)), 0), (("not", None, 0, (1,)), 1), (("/", None, 0, (1, 0)), 0), (("rest", None, 0, (1, 0)), 0)):
                with self.subTest(row=row):
                    self.check(("answer", number, (), len(ahead) + 2), of_rows(*ahead, row))
            for op in ("/", "rest"):
                self.check(("fault", "nought", (), len(ahead) + 1), of_rows(*ahead, (op, None, 0, (0, 1))))
            self.check(("answer", 5, (0,), len(ahead) + 2), of_rows(*ahead, ("out", None, None, (1,))))
            self.check(("answer", 0, (), len(ahead) + 3), of_rows(*ahead, ("list", None, 0, (1,)), ("long", None, 0, (0,))))
            # The answer of a record or a list is 0.
            self.check(("answer", 0, (), len(ahead) + 1), of_rows(*ahead, give=1))
            branch = machine_of((0, ahead, ("branch", 1, 1, 2)), (1, (), ("fail", 1)), (2, (), ("fail", 2)))
            self.check(("fault", "fail 2", (), len(ahead) + 2), branch)
            more = ahead + (("new", 1, 2, ()), ("num", 7, 3, ()), ("set", 0, None, (2, 3)), ("set", 0, None, (2, 1)), ("get", 0, 0, (2,)))
            self.check(("answer", 0, (), len(more) + 1), of_rows(*more))
            more = ahead + (("list", None, 2, (0,)), ("num", 7, 3, ()), ("store", None, None, (2, 1, 3)), ("at", None, 3, (2, 1)), ("out", None, None, (3,)), ("store", None, None, (2, 1, 1)), ("at", None, 0, (2, 1)))
            self.check(("answer", 0, (7,), len(more) + 1), of_rows(*more))

    def test_where_a_record_or_a_list_is_wanted(self):
        ahead = (LOAD, RECORD) + LIST
        for row in (("get", 0, 0, (0,)), ("get", 0, 0, (3,)), ("get", 2, 0, (2,)), ("get", 3, 0, (2,)), ("set", 0, 0, (0, 0)), ("set", 0, 0, (3, 0)), ("set", 2, 0, (2, 0)), ("set", 3, None, (2, 0)),
                    ("long", None, 0, (0,)), ("long", None, 0, (2,)), ("at", None, 0, (0, 0)), ("at", None, 0, (2, 0)), ("store", None, 0, (0, 0, 0)), ("store", None, None, (2, 0, 0)), ("get", 0, None, (1,))):
            with self.subTest(row=row):
                self.check(("fault", "kind", (5,), len(ahead) + 2), of_rows(*ahead, OUT, row, OUT))
        for row in (("get", 1, 0, (2,)), ("set", 1, 0, (2, 3)), ("long", None, 0, (3,)), ("at", None, 0, (3, 2)), ("store", None, 0, (3, 2, 3))):
            self.assertEqual("answer", machine_run(of_rows(*ahead, row), [5], 9)[0])

    def test_faults(self):
        for rows, fault in (
                ((("num", 0, 1, ()), ("/", None, 0, (0, 1))), "nought"), ((("num", 0, 1, ()), ("rest", None, 0, (0, 1))), "nought"), ((("num", -1, 1, ()), ("list", None, 0, (1,))), "size"),
                ((("num", 17, 1, ()), ("list", None, 0, (1,))), "size"), ((("list", None, 1, (0,)), ("at", None, 0, (1, 0))), "range"),
                ((("list", None, 1, (0,)), ("store", None, None, (1, 0, 0))), "range")):
            self.check(("fault", fault, (5,), 4), of_rows(LOAD, OUT, *rows, OUT))
        for number in (0, 7, -3):
            self.check(("fault", f"fail {number}", (5,), 3), machine_of((0, (LOAD, OUT), ("fail", number))))
        self.check(("answer", 16, (), 4), of_rows(("num", 16, 1, ()), ("list", None, 2, (1,)), ("long", None, 0, (2,))))

    def test_branches(self):
        machine = machine_of((0, (LOAD,), ("branch", 0, 1, 2)), (1, (("num", 10, 0, ()),), ("give", 0)), (2, (), ("jump", 3)), (3, (("num", 20, 0, ()),), ("give", 0)))
        for number, expected in ((5, ("answer", 10, (), 4)), (-1, ("answer", 10, (), 4)), (0, ("answer", 20, (), 5))):
            self.check(expected, machine, (number,))

    def test_ticks(self):
        tick = ("tick", None, None, ())
        machine = of_rows(LOAD, tick, OUT, tick, OUT)
        self.check(("more", None, (), 2), machine, bound=0)
        self.check(("more", None, (5,), 4), machine, bound=1)
        self.check(("answer", 5, (5, 5), 6), machine, bound=2)
        self.check(("answer", 5, (5, 5), 6), machine, bound=3)
        calls = of_rows(LOAD, ("call", "say", 1, (0,)), ("call", "say", 1, (0,)))
        self.check(("more", None, (), 2), calls, bound=0)
        self.check(("more", None, (5,), 6), calls, bound=1)
        self.check(("answer", 5, (5, 5), 10), calls, bound=2)
        ring = machine_of((0, (tick, LOAD, OUT), ("jump", 0)))
        for bound in (0, 1, 2, 9):
            self.check(("more", None, (5,) * bound, 4 * bound + 1), ring, bound=bound)

    def test_calls_some_thousand_deep(self):
        machine = of_rows(("call", "down", 0, (0,)))
        self.check(("answer", 4999, (), 2 + 3 + 9 * 4999), machine, (4999,), 5000)
        self.check(("more", None, (), 1 + 6 * 5000), machine, (5000,), 5000)
        self.check(("more", None, (), 1 + 6 * 5000), machine, (-1,), 5000)

    def test_deep_calls_with_many_slots(self):
        deep = ("main", 1, 10000, ((0, (LOAD, ("save", HIGHEST, None, (0,)), ("call", "main", 1, (HIGHEST,))), ("give", 1)),))
        self.assertEqual(("more", None, (), 3 * 5001), machine_run((3, (deep,)), [5], 5000))

    def test_labels_may_be_any(self):
        million = 10 ** 6
        self.check(("answer", 5, (), 3), machine_of((million, (), ("jump", 3)), (3, (LOAD,), ("give", 0))))

    def test_what_is_handed_in_stays_and_the_same_is_told_again(self):
        machine = of_rows(LOAD, ("num", 3, 1, ()), ("save", 0, None, (1,)), ("new", 1, 2, ()), ("set", 0, None, (2, 0)), ("get", 0, 0, (2,)))
        inputs = [5]
        first = machine_run(machine, inputs, 3)
        machine_run(of_rows(("tick", None, None, ())), [1], 0)
        self.assertEqual([5], inputs)
        self.assertEqual(("answer", 5, (), 7), first)
        self.assertEqual(first, machine_run(machine, inputs, 3))
        self.assertEqual([tuple, tuple], [type(first), type(first[2])])


if __name__ == "__main__":
    unittest.main()
