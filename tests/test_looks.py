"""Points 9 and 10: which programs of the middle are right, and where wrong ones are wrong."""

import unittest

from growing import grown

from passpapers.errors import NoMiddle
from passpapers.looks import look_at_middle, visible_ahead
from passpapers.lowering import lower

GIVE = ("give", 0)
# A function of two params that calls itself, and one for each kind.
OTHERS = (
    ("both", ((0, 0), (1, -1)), 0, ((0, (), (), ("give", 0)),)),
    ("pair", (), 2, ((0, (), ((1, "new", 2, ()),), ("give", 1)),)),
    ("some", ((5, -1), (6, 3)), -1, ((0, (), (), ("give", 5)),)),
)
# 0 is a number, 1 another, 2 a list, 3 a record of two fields, 4 a copy of the list, 5 one of four.
AHEAD = (
    (1, "num", 5, ()), (2, "list", None, (0,)), (3, "new", 2, ()), (4, "copy", None, (2,)), (5, "new", 4, ()),
)


def program_of(*blocks, params=((0, 0),), others=OTHERS):
    return others + (("main", params, 0, blocks),)


class Looking(unittest.TestCase):
    def right(self, program):
        self.assertIsNone(look_at_middle(program))

    def wrong(self, program, place=None):
        with self.subTest(program=program):
            with self.assertRaises(NoMiddle) as caught:
                look_at_middle(program)
            told = caught.exception.place
            self.assertEqual([tuple, str, int, int], [type(told)] + [type(part) for part in told])
            if place is not None:
                self.assertEqual(place, told)

    def right_row(self, *row):
        self.right(program_of((0, (), AHEAD + ((9,) + row,), GIVE)))
        self.right(program_of((0, (), AHEAD + ((9,) + row, (10, "copy", None, (9,))), GIVE)))

    def wrong_row(self, *row):
        """It is wrong itself, and what but uses its name isn't."""
        place = ("main", 0, len(AHEAD))
        self.wrong(program_of((0, (), AHEAD + ((9,) + row,), GIVE)), place)
        self.wrong(program_of((0, (), AHEAD + ((9,) + row, (10, "copy", None, (9,)), (11, "copy", None, (10,))), GIVE)), place)

    def wrong_end(self, *end, more=()):
        self.wrong(program_of((0, (), AHEAD, end), *more), ("main", 0, len(AHEAD)))

    def right_end(self, *end, more=()):
        self.right(program_of((0, (), AHEAD, end), *more))


class TestRows(Looking):
    def test_num(self):
        for told in (0, -32768, 32767):
            self.right_row("num", told, ())
        for told in (32768, -32769, None, "5", (), True, False):
            self.wrong_row("num", told, ())
        self.wrong_row("num", 5, (0,))

    def test_copy(self):
        for name in range(6):
            self.right_row("copy", None, (name,))
        for row in (("copy", None, ()), ("copy", None, (0, 1)), ("copy", 0, (0,)), ("copy", None, (77,)),
                    ("copy", None, (9,))):
            self.wrong_row(*row)

    def test_sums(self):
        for op in ("+", "-", "*", "/", "rest", "<", "=", "and", "or"):
            self.right_row(op, None, (0, 1))
            for told, args in ((None, ()), (None, (0,)), (None, (0, 1, 1)), (0, (0, 1)), (None, (2, 0)), (None, (0, 3)),
                               (None, (0, 4)), (None, (0, 9)), (None, (12, 0))):
                self.wrong_row(op, told, args)
        self.right_row("not", None, (0,))
        for told, args in ((None, ()), (None, (0, 1)), (1, (0,)), (None, (2,)), (None, (3,)), (None, (12,))):
            self.wrong_row("not", told, args)

    def test_records(self):
        for told in (1, 2, 3, 4):
            self.right_row("new", told, ())
        for told in (0, 5, -1, None, "2", True):
            self.wrong_row("new", told, ())
        self.wrong_row("new", 2, (0,))
        for told, name in ((0, 3), (1, 3), (0, 5), (3, 5)):
            self.right_row("get", told, (name,))
            self.right_row("set", told, (name, 0))
        for told, args in ((2, (3,)), (4, (5,)), (-1, (3,)), (None, (3,)), (0, ()), (0, (3, 0)), (0, (0,)), (0, (2,)),
                           (0, (12,)), ("x", (3,)), (False, (3,))):
            self.wrong_row("get", told, args)
        for told, args in ((2, (3, 0)), (4, (5, 0)), (-1, (3, 0)), (None, (3, 0)), (0, (3,)), (0, (3, 0, 0)), (0, (0, 0)),
                           (0, (2, 0)), (0, (3, 2)), (0, (3, 3)), (0, (12, 0)), (True, (3, 0))):
            self.wrong_row("set", told, args)

    def test_lists(self):
        for op, args in (("list", (0,)), ("long", (2,)), ("long", (4,)), ("at", (2, 0)), ("store", (4, 0, 1))):
            self.right_row(op, None, args)
            self.wrong_row(op, 0, args)
            self.wrong_row(op, None, args[:-1])
            self.wrong_row(op, None, args + (0,))
        for op, args in (("list", (2,)), ("list", (3,)), ("long", (0,)), ("long", (3,)), ("at", (0, 2)), ("at", (3, 0)),
                         ("at", (2, 2)), ("store", (0, 2, 0)), ("store", (2, 2, 0)), ("store", (2, 0, 2)),
                         ("store", (2, 0, 3)), ("store", (5, 0, 0))):
            self.wrong_row(op, None, args)

    def test_out_and_tick(self):
        self.right_row("out", None, (1,))
        self.right_row("tick", None, ())
        for op, told, args in (("out", None, ()), ("out", None, (0, 1)), ("out", None, (2,)), ("out", 1, (0,)),
                               ("out", None, (3,)), ("tick", None, (0,)), ("tick", 1, ())):
            self.wrong_row(op, told, args)

    def test_calls(self):
        for told, args in (("both", (0, 2)), ("both", (1, 4)), ("pair", ()), ("main", (1,))):
            self.right_row("call", told, args)
        for told, args in (("none", ()), (None, ()), (5, ()), (("both",), (0, 2)), ("both", ()), ("both", (0,)),
                           ("both", (0, 2, 2)), ("both", (2, 0)), ("both", (0, 3)), ("pair", (0,)), ("main", (2,)),
                           ("some", (2, 3)), ("some", (2, 5)), ("both", (0, 12))):
            self.wrong_row("call", told, args)

    def test_kinds_that_rows_give(self):
        for row, good in (
                (("list", None, (0,)), -1), (("new", 3, ()), 3), (("new", 2, ()), 2), (("call", "pair", ()), 2),
                (("call", "both", (0, 2)), 0), (("get", 0, (3,)), 0), (("set", 0, (3, 0)), 0), (("at", None, (2, 0)), 0),
                (("long", None, (2,)), 0), (("store", None, (2, 0, 0)), 0), (("out", None, (0,)), 0), (("tick", None, ()), 0),
                (("num", 1, ()), 0), (("+", None, (0, 1)), 0), (("<", None, (0, 1)), 0), (("not", None, (0,)), 0),
                (("copy", None, (2,)), -1), (("copy", None, (4,)), -1), (("copy", None, (5,)), 4), (("copy", None, (1,)), 0)):
            for kind in (-1, 0, 1, 2, 3, 4):
                led = (1, ((20, kind),), (), GIVE)
                program = program_of((0, (), AHEAD + ((9,) + row,), ("jump", 1, (9,))), led)
                if kind == good:
                    self.right(program)
                else:
                    self.wrong(program, ("main", 0, len(AHEAD) + 1))

    def test_no_such_rows(self):
        for row in (("nums", 5, ()), (5, None, ()), (None, None, ()), ((), None, ()), ("jump", None, ()), ("load", 0, ()),
                    ("num", 5, (None,)), ("copy", None, 0), ("copy", None, ("0",)), ("copy", None, (True,)), ("num", 5, None),
                    ("copy", None, (-1,)), ("num", 5), ("num", 5, (), ()), ()):
            self.wrong_row(*row)
        for row in ((-1, "num", 5, ()), ("a", "num", 5, ()), (True, "num", 5, ()), (None, "num", 5, ()), 5, "num", None):
            self.wrong(program_of((0, (), AHEAD + (row,), GIVE)), ("main", 0, 5))


class TestEnds(Looking):
    MORE = ((1, (), (), GIVE), (2, ((20, 0), (21, -1)), (), GIVE), (3, ((22, 2),), (), GIVE))

    def test_jumps(self):
        for label, args in ((1, ()), (2, (0, 2)), (2, (1, 4)), (3, (3,))):
            self.right_end("jump", label, args, more=self.MORE)
        for label, args in ((4, ()), (0, ()), (1, (0,)), (2, ()), (2, (0,)), (2, (0, 2, 2)), (2, (2, 0)), (2, (0, 3)),
                            (3, (5,)), (3, (0,)), (2, (0, 20)), (2, (77, 2)), (-1, ()), ("1", ()), (None, ()), (True, ()),
                            (1, None), (1, 0), (2, (0, "a")), (2, (0, None))):
            self.wrong_end("jump", label, args, more=self.MORE)

    def test_branches(self):
        for end in ((0, 1, (), 2, (0, 2)), (1, 2, (0, 2), 2, (1, 4)), (0, 1, (), 1, ()), (0, 3, (3,), 1, ())):
            self.right_end("branch", *end, more=self.MORE)
        for end in ((2, 1, (), 1, ()), (3, 1, (), 1, ()), (77, 1, (), 1, ()), (20, 1, (), 1, ()), (0, 0, (), 1, ()),
                    (0, 1, (), 0, ()), (0, 9, (), 1, ()), (0, 1, (), 9, ()), (0, 1, (0,), 1, ()), (0, 1, (), 1, (0,)),
                    (0, 2, (0, 0), 1, ()), (0, 1, (), 2, (2, 2)), (None, 1, (), 1, ()), (0, 1, (), 1), (0, 1, ()),
                    (0, 1, (), 1, (), 1), (True, 1, (), 1, ()), (0, 1, (), 2, (0, 77))):
            self.wrong_end("branch", *end, more=self.MORE)

    def test_gives_and_fails(self):
        self.right_end("give", 1)
        for number in (0, -32768, 32767):
            self.right_end("fail", number)
        for end in (("give", 2), ("give", 3), ("give", 77), ("give",), ("give", 0, 0), ("give", None), ("give", True),
                    ("give", "0"), ("fail",), ("fail", 1, 1), ("fail", None), ("fail", "1"), ("fail", True), ("fail", ()),
                    (), ("stop",), (5, 5), (("give",), 0)):
            self.wrong_end(*end)
        for end in (None, 5, "give", ["give", 0]):
            self.wrong(program_of((0, (), AHEAD, end)), ("main", 0, 5))

    def test_gives_of_every_kind(self):
        for kind, row in ((0, ("num", 5)), (-1, None), (1, ("new", 1)), (2, ("new", 2)), (3, ("new", 3)), (4, ("new", 4))):
            rows = ((1, "num", 5, ()), (2, "list", None, (1,))) if row is None else ((2,) + row + ((),),)
            for other in (-1, 0, 1, 2, 3, 4):
                program = (("f", (), other, ((4, (), rows, ("give", 2)),)),) + program_of((0, (), (), GIVE))
                if other == kind:
                    self.right(program)
                else:
                    self.wrong(program, ("f", 4, len(rows)))


class TestFunctions(Looking):
    def test_right_programs(self):
        self.right((("main", (), 0, ((0, (), (), ("fail", 1)),)),))
        self.right((("yes", (), -1, ((99, (), (), ("fail", 1)),)), ("main", (), 0, ((7, (), (), ("fail", 1)),))))
        self.right(program_of((10 ** 6, (), ((10 ** 6, "num", 1, ()),), ("jump", 3, ())), (3, (), (), ("give", 10 ** 6))))

    def test_names_of_functions(self):
        one = ((0, (), (), ("fail", 1)),)
        main = ("main", (), 0, one)
        for program in ((), (("f", (), 0, one),), (main, main), (main, ("f", (), 0, one), ("f", (), 0, one)),
                        (main, ("F", (), 0, one)), (main, ("", (), 0, one)), (main, ("abcdefghi", (), 0, one)),
                        (main, (5, (), 0, one)), (main, (None, (), 0, one)), (main, 5), (main, ()), (main, main[:3]),
                        None, 5, "main", [main], (main, ("f", (), 0, one, ()))):
            self.wrong(program)
        self.wrong((main, ("f", (), 0, one), ("f", (), 0, one)), ("f", -1, -1))
        self.wrong((("f", (), 0, one),), ("", -1, -1))
        self.wrong((), ("", -1, -1))

    def test_kinds_params_and_blocks_of_functions(self):
        one = ((0, (), (), ("fail", 1)),)
        main = ("main", (), 0, one)
        for function in (("f", (), 5, one), ("f", (), -2, one), ("f", (), None, one), ("f", (), True, one),
                         ("f", (), "number", one), ("f", ((0, 5),), 0, one), ("f", ((0, -2),), 0, one),
                         ("f", ((0, None),), 0, one), ("f", ((-1, 0),), 0, one), ("f", (("a", 0),), 0, one),
                         ("f", ((0, 0), (0, 0)), 0, one), ("f", ((0, 0), (1, 0), (0, -1)), 0, one), ("f", (0,), 0, one),
                         ("f", None, 0, one), ("f", ((0,),), 0, one), ("f", (), 0, ()), ("f", (), 0, None), ("f", (), 0, (5,)),
                         ("f", (), 0, (one[0][:3],)), ("f", (), 0, (("a", (), (), GIVE),))):
            self.wrong((main, function), ("f", -1, -1))

    def test_main_as_in_trees(self):
        one = ((0, (), (), ("fail", 1)),)
        for params, kind in ((((0, -1),), 0), (((0, 0), (1, 2)), 0), ((), -1), ((), 1)):
            self.wrong((("main", params, kind, one),), ("main", -1, -1))
        self.right((("main", ((5, 0), (3, 0), (4, 0), (1, 0)), 0, one),))

    def test_blocks(self):
        last = (2, (), (), GIVE)
        self.wrong(program_of((0, ((9, 0),), (), GIVE)), ("main", 0, -1))
        self.wrong(program_of((0, (), (), ("jump", 2, ())), last, (2, (), (), GIVE)), ("main", 2, -1))
        self.wrong(program_of((0, (), (), GIVE), (0, (), (), GIVE)), ("main", 0, -1))
        for params in (((9, 5),), ((9, -2),), ((9, 0), (9, 0)), ((0, 0),), ((-1, 0),), ((9, 0, 0),), None, 5, (9,)):
            self.wrong(program_of((0, (), (), GIVE), (4, params, (), GIVE)), ("main", 4, -1))
        self.wrong(program_of((0, (), (), GIVE), (4, (), None, GIVE)), ("main", 4, -1))
        self.wrong(program_of((0, (), (), GIVE), (-4, (), (), GIVE)), ("main", -1, -1))
        self.wrong(program_of((0, (), (), GIVE), (1, ((9, 0),), (), GIVE), (4, ((9, 0),), (), GIVE)), ("main", 4, -1))

    def test_no_end_leads_to_the_first_block(self):
        tick = ((9, "tick", None, ()),)
        self.wrong(program_of((0, (), tick, ("jump", 0, ()))), ("main", 0, 1))
        self.wrong(program_of((0, (), (), ("jump", 1, ())), (1, (), tick, ("branch", 0, 2, (), 0, ())), (2, (), (), GIVE)),
                   ("main", 1, 1))
        self.wrong(program_of((0, (), (), GIVE), (3, (), tick, ("jump", 0, ()))), ("main", 3, 1))

    def test_names_are_given_once(self):
        num = (1, "num", 5, ())
        self.wrong(program_of((0, (), (num, num), GIVE)), ("main", 0, 1))
        self.wrong(program_of((0, (), (num, (0, "num", 5, ())), GIVE)), ("main", 0, 1))
        self.wrong(program_of((0, (), (num,), ("jump", 1, ())), (1, (), ((2, "num", 1, ()), (1, "list", None, (2,))), GIVE)),
                   ("main", 1, 1))
        self.wrong(program_of((0, (), (num,), ("jump", 2, (0,))), (2, ((7, 0),), ((7, "num", 5, ()),), GIVE)), ("main", 2, 0))
        self.wrong(program_of((0, (), (num, (7, "list", None, (0,))), ("jump", 2, (0,))), (2, ((7, 0),), (), ("give", 7))),
                   ("main", 0, 1))
        self.right((("f", ((0, 0),), 0, ((0, (), (num,), GIVE),)),) + program_of((0, (), (num,), GIVE)))


class TestVisible(Looking):
    # 0 leads to 1 or 2, both to 3; 3 round by 4, or to 5; nothing leads to 6.
    BLOCKS = (
        (0, (), ((10, "num", 1, ()), (11, "num", 2, ())), ("branch", 10, 1, (), 2, ())),
        (1, (), ((12, "num", 3, ()),), ("jump", 3, (12,))),
        (2, (), ((13, "num", 4, ()),), ("jump", 3, (13,))),
        (3, ((14, 0),), ((15, "tick", None, ()), (16, "num", 5, ())), ("branch", 14, 4, (16,), 5, ())),
        (4, ((17, 0),), ((18, "num", 6, ()),), ("jump", 3, (18,))),
        (5, (), ((19, "num", 7, ()),), ("give", 19)),
        (6, (), ((20, "+", None, (12, 21)), (21, "+", None, (19, 20))), ("jump", 5, ())),
    )
    FUNCTION = ("main", ((0, 0), (1, 0)), 0, BLOCKS)

    def test_what_is_visible(self):
        every = [0, 1] + list(range(10, 22))
        for label, index, names in (
                (0, 0, [0, 1]), (0, 1, [0, 1, 10]), (0, 2, [0, 1, 10, 11]), (1, 0, [0, 1, 10, 11]),
                (1, 1, [0, 1, 10, 11, 12]), (2, 1, [0, 1, 10, 11, 13]), (3, 0, [0, 1, 10, 11, 14]),
                (3, 2, [0, 1, 10, 11, 14, 15, 16]), (4, 0, [0, 1, 10, 11, 14, 15, 16, 17]),
                (4, 1, [0, 1, 10, 11, 14, 15, 16, 17, 18]), (5, 0, [0, 1, 10, 11, 14, 15, 16]),
                (5, 1, [0, 1, 10, 11, 14, 15, 16, 19]), (6, 0, every), (6, 1, every), (6, 2, every)):
            with self.subTest(label=label, index=index):
                self.assertEqual(names, visible_ahead(self.FUNCTION, label, index))
        self.right((self.FUNCTION,))

    def test_told_names_are_sorted_and_the_asker_s_own(self):
        function = ("main", ((9, 0), (3, 0)), 0, ((0, (), ((7, "num", 1, ()), (1, "num", 1, ())), ("give", 7)),))
        told = visible_ahead(function, 0, 2)
        self.assertEqual([1, 3, 7, 9], told)
        told.clear()
        self.assertEqual([1, 3, 7, 9], visible_ahead(function, 0, 2))

    def test_uses_are_let_by_just_where_names_are_visible(self):
        names = [0, 1] + list(range(10, 22))
        for at, (label, params, rows, end) in enumerate(self.BLOCKS):
            for index in range(len(rows) + 1):
                visible = visible_ahead(self.FUNCTION, label, index)
                for name in names:
                    more = rows[:index] + ((30, "out", None, (name,)),) + rows[index:]
                    blocks = self.BLOCKS[:at] + ((label, params, more, end),) + self.BLOCKS[at + 1:]
                    program = (("main", ((0, 0), (1, 0)), 0, blocks),)
                    if name in visible:
                        self.right(program)
                    else:
                        self.wrong(program, ("main", label, index))

    def test_uses_by_ends(self):
        for at, end, place in ((1, ("jump", 3, (13,)), 1), (1, ("jump", 3, (16,)), 1), (3, ("branch", 18, 4, (16,), 5, ()), 2),
                               (3, ("branch", 14, 4, (17,), 5, ()), 2), (5, ("give", 12), 1), (5, ("give", 77), 1)):
            label, params, rows, old = self.BLOCKS[at]
            blocks = self.BLOCKS[:at] + ((label, params, rows, end),) + self.BLOCKS[at + 1:]
            self.wrong((("main", ((0, 0), (1, 0)), 0, blocks),), ("main", label, place))

    def test_where_no_way_leads(self):
        first = (0, (), (), GIVE)
        self.right(program_of(first, (1, ((3, 0),), ((1, "+", None, (2, 3)), (2, "+", None, (1, 1))), ("give", 2))))
        self.right(program_of(first, (1, (), (), ("jump", 2, ())), (2, (), ((5, "num", 1, ()),), ("give", 5))))
        self.right(program_of(first, (1, (), (), ("give", 5)), (2, (), ((5, "num", 1, ()),), ("give", 5))))
        self.wrong(program_of(first, (1, (), (), ("give", 5))), ("main", 1, 0))
        self.wrong(program_of(first, (1, (), ((2, "out", None, (5,)), (5, "list", None, (0,))), GIVE)), ("main", 1, 0))
        self.wrong(program_of(first, (1, (), ((2, "out", None, (5,)),), GIVE)), ("main", 1, 0))
        # A way from where none leads takes nothing from what is visible, but its arguments count.
        seen = ((0, (), ((9, "num", 1, ()),), ("jump", 2, (0,))), (2, ((8, 0),), (), ("give", 9)))
        self.right(program_of(*seen, (1, (), (), ("jump", 2, (8,)))))
        self.wrong(program_of(*seen, (1, (), (), ("jump", 2, ()))), ("main", 1, 0))
        self.wrong(program_of(*seen, (1, (), ((7, "new", 1, ()),), ("jump", 2, (7,)))), ("main", 1, 1))

    def test_what_copies_a_name_that_is_not_visible_is_wrong_and_not_its_users(self):
        rows = ((5, "copy", None, (6,)), (7, "out", None, (5,)), (6, "list", None, (0,)))
        self.wrong(program_of((0, (), rows, GIVE)), ("main", 0, 0))


class TestCopies(Looking):
    FIRST = (0, (), (), GIVE)

    def test_rings_of_copies(self):
        self.wrong(program_of(self.FIRST, (1, (), ((5, "copy", None, (5,)),), GIVE)), ("main", 1, 0))
        self.wrong(program_of(self.FIRST, (1, (), ((5, "copy", None, (6,)), (6, "copy", None, (5,))), GIVE)))
        self.wrong(program_of(self.FIRST, (1, (), ((4, "out", None, (5,)), (7, "copy", None, (5,)), (5, "copy", None, (5,))), GIVE)),
                   ("main", 1, 2))
        ring = ((5, "copy", None, (6,)), (6, "copy", None, (7,)), (7, "copy", None, (5,)))
        self.wrong(program_of(self.FIRST, (1, (), ring, GIVE)))
        self.wrong(program_of(self.FIRST, (1, (), ring[:1], GIVE), (2, (), ring[1:], GIVE)))

    def test_rows_of_copies(self):
        rows = ((5, "copy", None, (6,)), (6, "copy", None, (7,)), (7, "list", None, (0,)))
        self.right(program_of(self.FIRST, (1, (), rows + ((8, "long", None, (5,)),), GIVE)))
        self.wrong(program_of(self.FIRST, (1, (), rows + ((8, "out", None, (5,)),), GIVE)), ("main", 1, 3))
        many = tuple((k + 1, "copy", None, (k,)) for k in range(390))
        self.right(program_of((0, (), many, ("give", 390))))


class TestRings(Looking):
    TICK = (9, "tick", None, ())
    CALL = (9, "call", "pair", ())
    OUT = (9, "out", None, (0,))

    def ringed(self, first, second):
        return program_of((0, (), (), ("jump", 1, ())), (1, (), first, ("branch", 0, 2, (), 3, ())),
                          (2, (), second, ("jump", 1, ())), (3, (), (), GIVE))

    def test_rings_with_a_tick_or_a_call(self):
        for row in (self.TICK, self.CALL):
            self.right(self.ringed((row,), ()))
            self.right(self.ringed((), (row,)))

    def test_rings_without(self):
        self.wrong(self.ringed((), ()))
        self.wrong(self.ringed((self.OUT,), ()))
        self.wrong(program_of((0, (), (self.TICK,), ("jump", 1, ())), (1, (), (), ("branch", 0, 1, (), 2, ())), (2, (), (), GIVE)),
                   ("main", 1, 0))
        self.wrong(program_of((0, (), (), GIVE), (1, (), (self.OUT,), ("jump", 1, ()))), ("main", 1, 1))
        self.wrong(program_of((0, (), (), GIVE), (1, (), (), ("jump", 2, ())), (2, (), (), ("jump", 1, ()))))

    def test_one_ring_with_and_one_without(self):
        blocks = ((0, (), (), ("jump", 1, ())), (1, (), (self.TICK,), ("branch", 0, 2, (), 4, ())),
                  (2, (), (), ("branch", 0, 3, (), 1, ())), (4, (), (), GIVE))
        self.right(program_of(*blocks, (3, (), (), ("jump", 1, ()))))
        self.wrong(program_of(*blocks, (3, (), (), ("jump", 2, ()))))

    def test_an_end_that_is_in_all_rings_is_the_wrong_one(self):
        self.wrong(program_of((0, (), (), ("jump", 1, ())), (1, (), (), ("branch", 0, 2, (), 3, ())),
                              (2, (), (), ("jump", 1, ())), (3, (), (), ("jump", 1, ()))), ("main", 1, 0))

    def test_choices_are_no_rings(self):
        blocks = [(k, (), (), ("branch", 0, k + 1, (), k + 2, ())) for k in range(50)]
        self.right(program_of(*blocks, (50, (), (), ("jump", 51, ())), (51, (), (), GIVE)))


class TestGeneral(Looking):
    def test_what_lower_tells_is_right(self):
        for seed in range(150):
            self.right(lower(grown(seed))[0])

    def test_large_programs(self):
        params = tuple((1000 * k, 0) for k in range(1, 140))
        blocks = [(0, (), tuple((k, "num", k, ()) for k in range(1, 200)), ("jump", 1, tuple(range(1, 140))))]
        for label in range(1, 60):
            args = tuple(name + label for name, kind in params)
            own = tuple((name + label, 0) for name, kind in params)
            rows = tuple((500 + label * 3 + k, "+", None, (args[0], args[1])) for k in range(3))
            end = ("jump", label + 1, args) if label < 59 else ("give", args[5])
            blocks.append((label, own, rows, end))
        self.right(tuple((name, ((0, 0),), 0, tuple(blocks)) for name in ["main"] + ["f" + c for c in "abcdefghijk"]))

    def test_the_same_is_told_again(self):
        right = program_of((0, (), AHEAD, GIVE))
        wrong = program_of((0, (), AHEAD + ((9, "out", None, (2,)),), GIVE))
        for k in range(2):
            self.right(right)
            self.wrong(wrong, ("main", 0, 5))
            self.assertEqual([0, 1, 2], visible_ahead(right[-1], 0, 2))


if __name__ == "__main__":
    unittest.main()
