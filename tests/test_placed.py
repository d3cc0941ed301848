"""Points 12, 23 and 25: calls put in place."""

import random
import unittest

from drawing import drawn, inputs_for
from growing import grown
from spoiling import NO_PAPERS, Checking, main_of, spoiled, with_block

from passpapers.errors import NoPass, PassError
from passpapers.lowering import lower
from passpapers.looks import look_at_middle
from passpapers.middle import block_of
from passpapers.midrun import middle_run
from passpapers.placed import placed_wrong
from passpapers.placing import place_call, place_first

# Two gives, a fault, a ring, a block to which no way leads, a param that nothing uses.
AID = ("aid", ((0, 0), (1, 0), (2, -1)), 0, (
    (5, (), ((3, "num", 1, ()), (4, "<", None, (0, 3))), ("branch", 4, 7, (0,), 6, ())),
    (6, (), ((8, "tick", None, ()), (9, "/", None, (3, 1))), ("branch", 9, 7, (9,), 8, (1,))),
    (7, ((10, 0),), (), ("give", 10)),
    (8, ((11, 0),), (), ("branch", 11, 6, (), 9, ())),
    (9, (), (), ("fail", 4)),
    (10, (), ((12, "+", None, (13, 0)), (13, "num", 2, ())), ("give", 12))))
SAY = ("say", ((0, 0),), 0, ((0, (), ((1, "out", None, (0,)),), ("give", 0)),))
PAIR = ("pair", (), 2, ((0, (), ((1, "new", 2, ()),), ("give", 1)),))
MAIN = main_of(
    (5, (), ((1, "num", 3, ()), (2, "list", None, (1,)), (3, "call", "aid", (0, 90, 2)), (4, "out", None, (3,))), ("branch", 3, 6, (4,), 7, ())),
    (6, ((8, 0),), ((9, "call", "say", (8,)),), ("give", 9)),
    (7, (), ((10, "call", "main", (0, 3)),), ("give", 10)))
PROGRAM = (AID, SAY, PAIR) + MAIN
LABELS = ((5, 20), (6, 21), (7, 22), (8, 23), (9, 24), (10, 25))
NAMES = ((3, 30), (4, 31), (8, 32), (9, 33), (10, 34), (11, 35), (12, 36), (13, 37))
BODY = ("main", 5, 2, 40, LABELS, NAMES, 41)
AFTER = (AID, SAY, PAIR) + main_of(
    (5, (), ((1, "num", 3, ()), (2, "list", None, (1,)), (40, "tick", None, ())), ("jump", 20, ())),
    (20, (), ((30, "num", 1, ()), (31, "<", None, (0, 30))), ("branch", 31, 22, (0,), 21, ())),
    (21, (), ((32, "tick", None, ()), (33, "/", None, (30, 90))), ("branch", 33, 22, (33,), 23, (90,))),
    (22, ((34, 0),), (), ("jump", 41, (34,))),
    (23, ((35, 0),), (), ("branch", 35, 21, (), 24, ())),
    (24, (), (), ("fail", 4)),
    (25, (), ((36, "+", None, (37, 0)), (37, "num", 2, ())), ("jump", 41, (36,))),
    (41, ((3, 0),), ((4, "out", None, (3,)),), ("branch", 3, 6, (4,), 7, ())),
    (6, ((8, 0),), ((9, "call", "say", (8,)),), ("give", 9)),
    (7, (), ((10, "call", "main", (0, 3)),), ("give", 10)))
INPUTS = ([0, 0], [0, 5], [3, 2], [3, 0], [5, -1], [1, 1])


def with_body(**parts):
    """The paper with other parts."""
    keys = ("function", "label", "index", "tick", "labels", "names", "rest")
    return ("placed", tuple(parts.get(key, part) for key, part in zip(keys, BODY)))


class Placing(Checking):
    checkers = (placed_wrong,)

    def run_alike(self, before, after, inputs=INPUTS):
        for given in inputs:
            for bound in (0, 1, 2, 3, 4, 9, 30):
                self.assertEqual(middle_run(before, given, bound)[:3], middle_run(after, given, bound)[:3])

    def placed(self, program, *place, inputs=INPUTS):
        """The outcome, which is let by and runs alike."""
        outcome, paper = place_call(program, *place)
        self.let_by(program, outcome, paper)
        self.assertEqual(place, paper[1][:3])
        self.run_alike(program, outcome, inputs)
        self.assertEqual([function[:3] for function in program], [function[:3] for function in outcome])
        return outcome


class TestPlacedWrong(Placing):
    def test_let_by(self):
        self.let_by(PROGRAM, AFTER, ("placed", BODY))
        self.run_alike(PROGRAM, AFTER)

    def test_nothing_changed(self):
        self.let_by(PROGRAM, PROGRAM, ("placed", ()))
        self.wrong(PROGRAM, AFTER, ("placed", ()))
        self.wrong(PROGRAM, PROGRAM, ("placed", BODY))
        rows = block_of(MAIN[0], 5)[2]
        for index in range(len(rows) + 1):
            extra = rows[:index] + ((77, "num", 3, ()),) + rows[index:]
            self.wrong(PROGRAM, with_block(PROGRAM, 5, rows=extra), ("placed", ()), ("main", 5, index))
        self.wrong(PROGRAM, with_block(PROGRAM, 6, end=("give", 8)), ("placed", ()), ("main", 6, 1))
        self.wrong(PROGRAM, PROGRAM[1:2] + PROGRAM[:1] + PROGRAM[2:], ("placed", ()))

    def test_pairs_in_another_order(self):
        self.let_by(PROGRAM, AFTER, with_body(labels=LABELS[::-1]))
        self.let_by(PROGRAM, AFTER, with_body(names=NAMES[3:] + NAMES[:3]))

    def test_pairs_twice_left_out_or_too_many(self):
        for labels in (LABELS[1:], LABELS[:-1], LABELS + ((77, 78),), LABELS + LABELS[:1], LABELS + ((5, 26),), (), list(LABELS), None, 5,
                       LABELS[:5] + ((10, 24),), LABELS[:5] + ((10, 5),), LABELS[:5] + ((10, 41),), LABELS[:5] + ((10, "25"),), LABELS[:5] + ((True, 25),),
                       LABELS[:5] + ((10,),), LABELS[:5] + ((10, 25, 25),), LABELS[:5] + ([10, 25],), LABELS[:5] + (10,), LABELS[:5] + ((10, -1),)):
            with self.subTest(labels=labels):
                self.wrong(PROGRAM, AFTER, with_body(labels=labels))
        for names in (NAMES[1:], NAMES[:-1], NAMES + ((77, 78),), NAMES + NAMES[:1], NAMES + ((3, 38),), (), list(NAMES), None, 5, NAMES + ((0, 0),),
                      NAMES + ((1, 90),), NAMES[:7] + ((13, 36),), NAMES[:7] + ((13, 3),), NAMES[:7] + ((13, 90),), NAMES[:7] + ((13, 40),),
                      NAMES[:7] + ((13, None),), NAMES[:7] + ((13,),), NAMES[:7] + (([], 37),), NAMES[:7] + ((13, -2),)):
            with self.subTest(names=names):
                self.wrong(PROGRAM, AFTER, with_body(names=names))

    def test_labels_and_names_in_use_or_given_twice(self):
        # What is after is changed with the paper, so that the look alone refuses it.
        def other(label, to, names):
            copied = [block for block in AFTER[3][3]]
            text = repr(tuple(copied))
            for old, new in names + ((label, to),):
                text = text.replace(f"({old},", f"({new},").replace(f", {old},", f", {new},").replace(f" {old})", f" {new})")
            return AFTER[:3] + (AFTER[3][:3] + (eval(text),),)
        for number in (5, 6, 7, 21, 41):
            self.wrong(PROGRAM, other(25, number, ()), with_body(labels=LABELS[:5] + ((10, number),)))
        for number in (1, 3, 90, 30, 40):
            self.wrong(PROGRAM, other(25, 25, ((36, number),)), with_body(names=NAMES[:6] + ((12, number), (13, 37))))
        self.let_by(PROGRAM, other(25, 26, ((36, 38),)), with_body(labels=LABELS[:5] + ((10, 26),), names=NAMES[:6] + ((12, 38), (13, 37))))

    def test_tick_and_rest(self):
        def other(tick, rest):
            text = repr(AFTER[3][3]).replace("(40,", f"({tick},").replace("41, (", f"{rest}, (")
            return AFTER[:3] + (AFTER[3][:3] + (eval(text),),)
        self.let_by(PROGRAM, other(50, 51), with_body(tick=50, rest=51))
        self.let_by(PROGRAM, other(10 ** 6, 10 ** 6), with_body(tick=10 ** 6, rest=10 ** 6))
        for tick, rest in ((1, 41), (3, 41), (90, 41), (30, 41), (40, 5), (40, 7), (40, 20), (40, 25)):
            self.wrong(PROGRAM, other(tick, rest), with_body(tick=tick, rest=rest))
        for tick, rest in ((50, 41), (40, 51), (None, 41), (40, None), (True, 41), (40, "41"), (-1, 41), (40, -1)):
            self.wrong(PROGRAM, AFTER, with_body(tick=tick, rest=rest))

    def test_places_that_are_no_call_of_another_function(self):
        for parts in ({"function": "aid"}, {"function": "none"}, {"function": 5}, {"function": ""}, {"function": None}, {"label": 6}, {"label": 7}, {"label": 77},
                      {"label": "5"}, {"label": True}, {"index": 0}, {"index": 1}, {"index": 3}, {"index": 4}, {"index": 77}, {"index": -1}, {"index": -2},
                      {"index": None}, {"index": "2"}):
            with self.subTest(parts=parts):
                self.wrong(PROGRAM, AFTER, with_body(**parts))
        # It calls its own function.
        self.wrong(PROGRAM, PROGRAM, ("placed", ("main", 7, 0, 40, tuple((k, k + 50) for k in (5, 6, 7)), tuple((k, k + 50) for k in (1, 2, 3, 4, 8, 9, 10)), 41)))
        one = ("main", ((0, 0),), 0, ((0, (), ((1, "call", "main", (0,)),), ("give", 1)),))
        after = ("main", ((0, 0),), 0, ((0, (), ((2, "tick", None, ()),), ("jump", 3, ())), (3, (), ((4, "call", "main", (0,)),), ("jump", 5, (4,))),
                                        (5, ((1, 0),), (), ("give", 1))))
        self.assertIsNone(look_at_middle((after,)))
        self.wrong((one,), (after,), ("placed", ("main", 0, 0, 2, ((0, 3),), ((1, 4),), 5)))
        two = (("down",) + one[1:], ("main",) + one[1:3] + (((0, (), ((1, "call", "down", (0,)),), ("give", 1)),),))
        self.let_by(two, (two[0], ("main",) + one[1:3] + (((0, (), ((2, "tick", None, ()),), ("jump", 3, ())), (3, (), ((4, "call", "main", (0,)),), ("jump", 5, (4,))),
                                                           (5, ((1, 0),), (), ("give", 1))),)), ("placed", ("main", 0, 0, 2, ((0, 3),), ((1, 4),), 5)))

    def test_papers(self):
        for paper in NO_PAPERS + (("placed",), ("placed", None), ("placed", []), ("placed", 0), ("placed", ((),)), ("placed", (), ()), ("kept", ()), ("kept", BODY),
                                  ("placed", BODY[:6]), ("placed", BODY + ((),)), ("placed", list(BODY)), ("placed", BODY[::-1]), ("placed", BODY, ()),
                                  ("placed", (BODY,)), ["placed", BODY], ("placed", BODY[:4] + (NAMES, LABELS, 41)), ("placed", BODY[:3] + (41, LABELS, NAMES, 40))):
            with self.subTest(paper=paper):
                self.wrong(PROGRAM, AFTER, paper)
        for paper in NO_PAPERS:
            self.wrong(PROGRAM, AFTER, paper, ("", -1, -1))

    def test_each_row_and_end(self):
        for label, index, row in ((5, 0, (1, "num", 4, ())), (5, 2, (40, "num", 0, ())), (5, 2, (42, "tick", None, ())), (20, 0, (30, "num", 2, ())), (20, 1, (31, "<", None, (30, 0))),
                                  (20, 1, (31, "=", None, (0, 30))), (20, 1, (31, "<", None, (90, 30))), (21, 1, (33, "/", None, (30, 0))), (21, 1, (33, "rest", None, (30, 90))),
                                  (21, 0, (42, "tick", None, ())), (25, 0, (36, "+", None, (37, 90))), (25, 1, (37, "num", 3, ())), (41, 0, (4, "out", None, (0,))),
                                  (6, 0, (9, "call", "say", (0,))), (7, 0, (10, "call", "main", (0, 0)))):
            rows = block_of(AFTER[3], label)[2]
            with self.subTest(label=label, row=row):
                self.wrong(PROGRAM, with_block(AFTER, label, rows=rows[:index] + (row,) + rows[index + 1:]), ("placed", BODY), ("main", label, index))
        for label, end in ((5, ("give", 1)), (5, ("fail", 4)), (20, ("branch", 31, 22, (90,), 21, ())), (20, ("branch", 31, 21, (), 22, (0,))),
                           (20, ("branch", 0, 22, (0,), 21, ())), (21, ("branch", 33, 22, (30,), 23, (90,))), (21, ("branch", 33, 22, (33,), 23, (0,))), (22, ("give", 34)),
                           (22, ("jump", 41, (0,))), (22, ("fail", 4)), (23, ("branch", 35, 24, (), 21, ())), (24, ("fail", 5)), (24, ("jump", 41, (0,))), (25, ("jump", 41, (37,))),
                           (41, ("branch", 3, 6, (3,), 7, ())), (41, ("give", 3)), (6, ("give", 8)), (7, ("give", 0))):
            with self.subTest(label=label, end=end):
                self.wrong(PROGRAM, with_block(AFTER, label, end=end), ("placed", BODY), ("main", label, len(block_of(AFTER[3], label)[2])))
        self.wrong(PROGRAM, with_block(AFTER, 0, "say", rows=((1, "not", None, (0,)),)), ("placed", BODY), ("say", 0, 0))
        self.wrong(PROGRAM, with_block(AFTER, 7, "aid", end=("give", 0)), ("placed", BODY), ("aid", 7, 0))

    def test_rows_too_many_and_too_few(self):
        for label in (5, 20, 21, 22, 25, 41, 6):
            rows = block_of(AFTER[3], label)[2]
            for index in range(len(rows) + 1):
                more = rows[:index] + ((77, "num", 5, ()),) + rows[index:]
                self.wrong(PROGRAM, with_block(AFTER, label, rows=more), ("placed", BODY), ("main", label, index))
        self.wrong(PROGRAM, with_block(AFTER, 21, rows=block_of(AFTER[3], 21)[2][:1], end=("branch", 0, 22, (0,), 23, (90,))), ("placed", BODY))
        self.wrong(PROGRAM, with_block(AFTER, 41, rows=(), end=("branch", 3, 6, (3,), 7, ())), ("placed", BODY))

    def test_params_and_blocks(self):
        for label, params, place in ((22, ((38, 0),), 22), (41, ((38, 0),), 41), (22, (), 22), (20, ((38, 0),), 20)):
            self.wrong(PROGRAM, with_block(AFTER, label, params=params), ("placed", BODY))
        free = with_block(with_block(AFTER, 6, params=((38, 0),), rows=((9, "call", "say", (38,)),)), 6)
        self.wrong(PROGRAM, free, ("placed", BODY), ("main", 6, -1))
        blocks = AFTER[3][3]
        for order in (blocks[:1] + blocks[8:] + blocks[1:8], blocks[:1] + blocks[2:3] + blocks[1:2] + blocks[3:], blocks[:-1], blocks + ((77, (), (), ("fail", 1)),)):
            self.wrong(PROGRAM, AFTER[:3] + (AFTER[3][:3] + (order,),), ("placed", BODY))
        gone = tuple(block for block in blocks if block[0] != 25)
        self.wrong(PROGRAM, AFTER[:3] + (AFTER[3][:3] + (gone,),), ("placed", BODY))
        self.wrong(PROGRAM, AFTER[:3] + (AFTER[3][:3] + (gone,),), with_body(labels=LABELS[:5], names=NAMES[:6]))

    def test_functions(self):
        self.wrong(PROGRAM, AFTER[1:] + AFTER[:1], ("placed", BODY))
        self.wrong(PROGRAM, AFTER[1:], ("placed", BODY))
        self.wrong(PROGRAM, AFTER[:2] + AFTER[3:], ("placed", BODY))
        self.wrong(PROGRAM, AFTER + (("more",) + PAIR[1:],), ("placed", BODY))
        self.wrong(PROGRAM, AFTER[:2] + (("pais",) + PAIR[1:],) + AFTER[3:], ("placed", BODY), ("pais", -1, -1))
        self.wrong(PROGRAM, AFTER[:2] + (("pair", ((5, 0),)) + PAIR[2:],) + AFTER[3:], ("placed", BODY), ("pair", -1, -1))

    def test_what_the_look_refuses(self):
        # By the other way 30 isn't given ahead of 33.
        self.wrong(PROGRAM, with_block(AFTER, 5, end=("jump", 21, ())), ("placed", BODY), ("main", 21, 1))
        self.wrong(PROGRAM, with_block(AFTER, 41, rows=((4, "out", None, (77,)),)), ("placed", BODY), ("main", 41, 0))
        self.wrong(PROGRAM, with_block(AFTER, 24, end=("give", 77)), ("placed", BODY), ("main", 24, 0))
        self.wrong(PROGRAM, (), ("placed", BODY))
        self.wrong(PROGRAM, None, ("placed", ()))

    def test_one_row_or_one_end_alone_is_wrong(self):
        let_by = 0
        for seed in range(60):
            program = lower(grown(seed))[0] if seed % 3 == 0 else drawn(seed)
            outcome, paper = place_first(program)
            for other, place in spoiled(random.Random(seed), outcome):
                self.assertEqual(place, placed_wrong(program, other, paper), seed)
                let_by += paper[1] != ()
        self.assertGreater(let_by, 0)


class TestPlaceCall(Placing):
    def test_as_told(self):
        outcome = self.placed(PROGRAM, "main", 5, 2)
        self.assertEqual([5], [block[0] for block in outcome[3][3][:1]])
        self.assertEqual(len(MAIN[0][3]) + len(AID[3]) + 1, len(outcome[3][3]))
        again = self.placed(outcome, "main", 6, 0)
        self.assertEqual(len(outcome[3][3]) + 2, len(again[3][3]))

    def test_where_the_call_stands(self):
        say = (9, "call", "say", (0,))
        out, num = (1, "out", None, (90,)), (2, "num", 5, ())
        for rows in ((say,), (say, out), (out, say), (out, say, num), (out, num, say), (say, out, num, (3, "out", None, (9,)))):
            self.placed((SAY,) + main_of((5, (), rows, ("give", 9))), "main", 5, rows.index(say))
            program = main_of((5, (), (), ("branch", 0, 6, (0,), 7, ())), (6, ((4, 0),), rows, ("jump", 7, ())), (7, (), (), ("give", 90)))
            self.placed((SAY,) + program, "main", 6, rows.index(say))
            idle = main_of((5, (), (), ("give", 0)), (6, ((4, 0),), rows, ("branch", 9, 6, (12,), 7, ())), (7, (), ((12, "copy", None, (9,)),), ("give", 2 if num in rows else 9)))
            self.placed((SAY,) + idle, "main", 6, rows.index(say))

    def test_functions_of_several_sorts(self):
        fault = ("fault", ((0, 0),), -1, ((0, (), (), ("fail", 3)),))
        ever = ("ever", (), 1, ((0, (), (), ("jump", 1, ())), (1, (), ((1, "tick", None, ()),), ("jump", 1, ())), (2, (), ((3, "new", 1, ()),), ("give", 3))))
        echo = ("echo", ((7, -1),), -1, ((0, (), (), ("give", 7)),))
        both = ("both", ((7, 0), (8, 0)), 0, ((0, (), (), ("branch", 7, 1, (), 2, ())), (1, (), (), ("give", 8)), (2, (), (), ("give", 7))))
        made = ("made", ((7, 0),), 3, ((0, (), ((1, "new", 3, ()), (2, "set", 1, (1, 7))), ("give", 1)),))
        others = (fault, ever, echo, both, made)
        for rows, index in (
                (((1, "out", None, (0,)), (2, "call", "fault", (0,)), (3, "long", None, (2,))), 1),
                (((1, "out", None, (0,)), (2, "call", "ever", ()), (3, "get", 0, (2,))), 1),
                (((1, "list", None, (0,)), (2, "call", "echo", (1,)), (3, "long", None, (2,))), 1),
                (((1, "num", 5, ()), (2, "call", "both", (0, 0)), (3, "+", None, (1, 2))), 1),
                (((1, "num", 5, ()), (2, "call", "both", (0, 1)), (3, "+", None, (1, 2))), 1),
                (((1, "num", 5, ()), (2, "call", "made", (0,)), (3, "get", 1, (2,))), 1)):
            with self.subTest(row=rows[index]):
                self.placed(others + main_of((5, (), rows, ("give", 3))), "main", 5, index)

    def test_in_a_round(self):
        program = (SAY,) + main_of((5, (), (), ("jump", 6, (0,))), (6, ((1, 0),), ((2, "call", "say", (1,)), (3, "num", 1, ()), (4, "-", None, (1, 3))), ("branch", 4, 6, (4,), 7, ())),
                                   (7, (), (), ("give", 2)))
        outcome = self.placed(program, "main", 6, 0)
        self.assertEqual(outcome, place_first(program)[0])

    def test_refused(self):
        for place in (("main", 5, 0), ("main", 5, 1), ("main", 5, 3), ("main", 5, 4), ("main", 5, 5), ("main", 5, -2), ("main", 5, 77), ("main", 7, 0), ("main", 8, 0),
                      ("none", 5, 2), ("aid", 5, 0), ("pair", 0, 0), ("main", 77, 0)):
            with self.subTest(place=place):
                with self.assertRaises(NoPass) as caught:
                    place_call(PROGRAM, *place)
                self.assertIsInstance(caught.exception, PassError)
                self.assertIsInstance(caught.exception, ValueError)

    def test_names_and_labels_that_are_far_up(self):
        million = 10 ** 6
        say = ("say", ((million, 0),), 0, ((million, (), ((999999, "out", None, (million,)),), ("give", million)),))
        program = (say, ("main", ((million, 0),), 0, ((million, (), ((999999, "call", "say", (million,)),), ("give", 999999)),)))
        outcome, paper = place_call(program, "main", million, 0)
        self.let_by(program, outcome, paper)
        self.assertEqual([], [number for number in [paper[1][3], paper[1][6]] + [new for old, new in paper[1][4] + paper[1][5]] if number > million])

    def test_a_call_that_makes_a_function_large_is_put_in_place_all_the_same(self):
        large = ("large", (), 0, tuple((k, (), (), ("jump", k + 1, ())) for k in range(59)) + ((59, (), ((1, "num", 1, ()),), ("give", 1)),))
        program = (large,) + main_of((5, (), ((1, "call", "large", ()),), ("give", 1)))
        outcome = self.placed(program, "main", 5, 0)
        self.assertEqual(62, len(outcome[1][3]))
        self.assertEqual((program, ("placed", ())), place_first(program))


class TestPlaceFirst(Placing):
    def first(self, program):
        outcome, paper = place_first(program)
        self.let_by(program, outcome, paper)
        self.assertEqual(outcome == program, paper == ("placed", ()))
        return paper[1][:3]

    def test_the_first_in_order(self):
        self.assertEqual(("main", 5, 2), self.first(PROGRAM))
        self.assertEqual(("main", 6, 0), self.first((SAY,) + main_of(
            (5, (), ((1, "call", "main", (0, 0)),), ("branch", 0, 6, (), 7, ())), (6, (), ((2, "call", "say", (0,)), (3, "call", "say", (1,))), ("give", 1)),
            (7, (), ((4, "call", "say", (0,)),), ("give", 4)))))
        # In a block to which no way leads, and in another function than main.
        self.assertEqual(("main", 6, 0), self.first((SAY,) + main_of((5, (), (), ("give", 0)), (6, (), ((1, "call", "say", (0,)),), ("give", 1)))))
        twice = ("twice", ((0, 0),), 0, ((0, (), ((1, "call", "say", (0,)), (2, "call", "say", (0,))), ("give", 2)),))
        self.assertEqual(("twice", 0, 0), self.first((twice, SAY) + main_of((5, (), ((1, "call", "say", (0,)),), ("give", 1)))))
        self.assertEqual(("main", 5, 0), self.first(main_of((5, (), ((1, "call", "say", (0,)),), ("give", 1))) + (SAY, twice)))

    def test_nothing(self):
        for program in (main_of((5, (), (), ("give", 0))), main_of((5, (), ((1, "call", "main", (0, 0)),), ("give", 1))), (SAY,) + main_of((5, (), (), ("give", 0)))):
            self.assertEqual((program, ("placed", ())), place_first(program))

    def program(self, blocks, rows, called_blocks, called_rows):
        """A main of so many blocks and rows that calls a function of so many, then one that is small."""
        def body(many, fill):
            made = [(k, (), (), ("jump", k + 1, ())) for k in range(many)]
            made[0] = (0, (), tuple(fill), made[0][3])
            return made
        large = body(called_blocks, [(k, "num", 1, ()) for k in range(called_rows)])
        large[-1] = large[-1][:3] + (("give", 0),)
        main = body(blocks, [(100, "call", "large", ()), (101, "call", "say", (0,))] + [(k, "num", 1, ()) for k in range(200, 198 + rows)])
        main[-1] = main[-1][:3] + (("give", 101),)
        return (("large", (), 0, tuple(large)), SAY, ("main", ((0, 0),), 0, tuple(main)))

    def test_too_many_blocks_or_rows(self):
        self.assertEqual(("main", 0, 0), self.first(self.program(30, 10, 29, 10)))
        self.assertEqual(("main", 0, 1), self.first(self.program(30, 10, 30, 10)))
        self.assertEqual(("main", 0, 0), self.first(self.program(3, 200, 3, 200)))
        self.assertEqual(("main", 0, 1), self.first(self.program(3, 200, 3, 201)))
        self.assertEqual((), self.first(self.program(59, 10, 2, 10)))
        self.assertEqual(("main", 0, 1), self.first(self.program(58, 10, 2, 10)))
        self.assertEqual((), self.first(self.program(3, 400, 3, 1)))
        self.assertEqual(("main", 0, 0), self.first(self.program(3, 399, 3, 1)))
        outcome = place_first(self.program(3, 200, 3, 200))[0]
        self.assertEqual(400, sum(len(block[2]) for block in outcome[2][3]))

    def test_drawn_programs(self):
        placed = 0
        for seed in range(300):
            program = lower(grown(seed))[0] if seed % 3 == 0 else drawn(seed)
            for k in range(3):
                with self.subTest(seed=seed):
                    outcome, paper = place_first(program)
                    self.let_by(program, outcome, paper)
                    self.run_alike(program, outcome, [inputs_for(program, seed + k)])
                    placed += paper[1] != ()
                    program = outcome
        self.assertGreater(placed, 100)

    def test_the_same_is_told_again(self):
        program = drawn(28)
        first = place_first(program)
        place_first(drawn(29))
        self.assertEqual(first, place_first(drawn(28)))
        self.assertEqual(drawn(28), program)


if __name__ == "__main__":
    unittest.main()
