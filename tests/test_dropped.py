"""Points 12, 17 and 18: what is left out of programs."""

import unittest

from drawing import drawn, inputs_for
from growing import grown
from spoiling import NO_PAPERS, Checking, main_of, with_block

from passpapers.dropped import dropped_wrong
from passpapers.dropping import drop
from passpapers.flow import labels_met
from passpapers.knowing import know
from passpapers.lowering import lower
from passpapers.middle import SAFE, block_of, param_names, params_by_name, rows_by_name, used_by, ways_of
from passpapers.midrun import middle_run

AID = ("aid", ((0, 0),), 0, ((3, (), (), ("give", 0)),))
IDLE = ("idle", (), 0, ((3, (), ((0, "num", 1, ()), (1, "call", "aid", (0,))), ("give", 1)),))
# Everything that may be left out: function idle, block 9, rows 1 to 12, params 20 and 22.
SAFE_ROWS = ((1, "num", 3, ()), (2, "copy", None, (0,)), (3, "list", None, (0,)), (4, "long", None, (3,)), (5, "not", None, (0,)),
             (6, "+", None, (0, 90)), (7, "-", None, (0, 90)), (8, "*", None, (0, 90)), (9, "<", None, (0, 90)), (10, "=", None, (0, 90)),
             (11, "and", None, (0, 90)), (12, "or", None, (0, 90)), (13, "new", 2, ()), (14, "get", 1, (13,)))
MAIN = main_of(
    (5, (), SAFE_ROWS, ("branch", 0, 6, (1, 0, 13), 7, ())),
    (6, ((20, 0), (21, 0), (22, 2)), ((23, "call", "aid", (21,)),), ("jump", 8, (23,))), (7, (), (), ("jump", 8, (90,))),
    (8, ((24, 0),), (), ("give", 24)), (9, (), ((25, "call", "idle", ()),), ("jump", 8, (25,))))
PROGRAM = (AID, IDLE) + MAIN
DROPPED = (1, 2, 4, 5, 6, 7, 8, 9, 10, 11, 12, 13, 14, 20, 22)
AFTER = (AID,) + main_of(
    (5, (), ((3, "list", None, (0,)),), ("branch", 0, 6, (0,), 7, ())),
    (6, ((21, 0),), ((23, "call", "aid", (21,)),), ("jump", 8, (23,))), (7, (), (), ("jump", 8, (90,))),
    (8, ((24, 0),), (), ("give", 24)))
PAPER = ("dropped", (("idle",), (((), ()), ((9,), DROPPED))))


def without(program, functions, labels, names):
    """The program without these, all of main."""
    left = []
    for function in program:
        if function[0] not in functions:
            blocks = []
            for label, params, rows, end in function[3]:
                if function[0] == "main":
                    for at, (led, args) in enumerate(ways_of(end)):
                        kept = tuple(arg for arg, name in zip(args, param_names(block_of(function, led)[1])) if name not in names)
                        end = end[:2] + (kept,) if end[0] == "jump" else end[:3 + 2 * at] + (kept,) + end[4 + 2 * at:]
                    params = tuple(param for param in params if param[0] not in names)
                    rows = tuple(row for row in rows if row[0] not in names)
                if function[0] != "main" or label not in labels:
                    blocks.append((label, params, rows, end))
            left.append(function[:3] + (tuple(blocks),))
    return tuple(left)


def paper_of(program, functions, labels, names):
    staying = [function[0] for function in program if function[0] not in functions]
    return ("dropped", (tuple(functions), tuple((tuple(labels), tuple(names)) if name == "main" else ((), ()) for name in staying)))


class TestDroppedWrong(Checking):
    checkers = (dropped_wrong,)

    def may(self, program, functions=(), labels=(), names=()):
        self.let_by(program, without(program, functions, labels, names), paper_of(program, functions, labels, names))

    def may_not(self, program, functions=(), labels=(), names=(), place=None):
        self.wrong(program, without(program, functions, labels, names), paper_of(program, functions, labels, names), place)

    def test_all_at_once(self):
        self.let_by(PROGRAM, AFTER, PAPER)
        self.let_by(PROGRAM, AFTER, ("dropped", (("idle",), (((), ()), ((9,), DROPPED[::-1])))))
        self.assertEqual(AFTER, without(PROGRAM, ("idle",), (9,), DROPPED))
        self.let_by(PROGRAM, PROGRAM, ("dropped", ((), (((), ()), ((), ()), ((), ())))))

    def test_each_alone(self):
        for name in (2, 4, 5, 6, 7, 8, 9, 10, 11, 12, 14, 20, 22):
            self.may(PROGRAM, names=(name,))
        self.may(PROGRAM, labels=(9,))
        self.may(PROGRAM, names=(13, 14, 22))
        self.may(PROGRAM, names=(1, 20))
        self.may(PROGRAM, functions=("idle",), labels=(9,))

    def test_names_still_used(self):
        for names in ((1,), (13,), (13, 14), (13, 22), (21,), (24,)):
            self.may_not(PROGRAM, names=names)
        self.may_not(PROGRAM, names=(21,), place=("main", 6, 0))
        self.may_not(PROGRAM, names=(24,), place=("main", 8, 0))
        self.may_not(PROGRAM, names=(1,), place=("main", 5, len(SAFE_ROWS) - 1))

    def test_rows_that_are_not_safe(self):
        rows = ((1, "num", 1, ()), (2, "/", None, (0, 1)), (3, "rest", None, (0, 1)), (4, "list", None, (1,)), (6, "at", None, (4, 1)),
                (7, "store", None, (4, 1, 1)), (8, "new", 1, ()), (9, "set", 0, (8, 1)), (10, "out", None, (1,)), (11, "tick", None, ()),
                (12, "call", "main", (0, 0)))
        program = main_of((5, (), rows, ("give", 0)))
        for name in (2, 3, 6, 7, 9, 10, 11, 12):
            with self.subTest(name=name):
                self.may_not(program, names=(name,), place=("main", 5, -1))
        self.may_not(program, names=(4, 6, 7), place=("main", 5, -1))

    def test_functions(self):
        for functions in (("aid",), ("aid", "idle"), ("main",), ("idle", "main"), ("idle",)):
            self.may_not(PROGRAM, functions=functions)
        # Called in a block that is left out alone, in a function that is left out, by itself.
        self.may(PROGRAM, functions=("idle",), labels=(9,))
        alone = ("alone", (), 0, ((3, (), ((0, "call", "alone", ()),), ("give", 0)),))
        self.may((alone,) + PROGRAM, functions=("alone",))
        main = main_of((5, (), (), ("give", 0)))
        self.may((AID, IDLE) + main, functions=("idle", "aid"))
        self.may((AID, IDLE) + main, functions=("idle",))
        self.may_not((AID, IDLE) + main, functions=("aid",))

    def test_blocks(self):
        for labels in ((5,), (6,), (7,), (8,), (6, 7), (6, 7, 8), (6, 8), (5, 6, 7, 8)):
            self.may_not(PROGRAM, labels=labels)
        ring = main_of((5, (), (), ("give", 0)), (6, (), ((1, "tick", None, ()),), ("jump", 7, ())), (7, (), (), ("jump", 6, ())),
                       (8, (), (), ("jump", 7, ())))
        for labels in ((6, 7, 8), (8,)):
            self.may(ring, labels=labels)
        for labels in ((6,), (7,), (6, 7), (6, 8), (7, 8)):
            self.may_not(ring, labels=labels)

    def test_a_first_block_that_nothing_leads_to(self):
        program = main_of((5, (), (), ("give", 0)), (6, (), (), ("give", 90)))
        self.may(program, labels=(6,))
        self.may_not(program, labels=(5,), place=("main", -1, -1))

    def test_papers_that_tell_what_is_not_there(self):
        functions, (aid, (labels, names)) = PAPER[1]
        for paper in NO_PAPERS:
            with self.subTest(paper=paper):
                self.wrong(PROGRAM, AFTER, paper, ("", -1, -1))
        for told in (None, (labels,), (labels, names + (77,)), (labels + (77,), names), (labels, names + (25,))):
            self.wrong(PROGRAM, AFTER, ("dropped", (functions, (aid, told))), ("main", -1, -1))
        for body in ((functions, ((labels, names), aid)), (functions, (aid,)), (functions, (aid, (labels, names), aid)),
                     (functions, (aid, (names, labels))), (functions, (aid, (labels,))), (functions, (aid, (labels, names, ()))),
                     (functions, [aid, (labels, names)]), (functions, (aid, [labels, names])), (functions, (aid, (labels, list(names)))),
                     (functions, (aid, (list(labels), names))), ("idle", (aid, (labels, names))), (["idle"], (aid, (labels, names))),
                     ((), (aid, (labels, names))), (functions + functions, (aid, (labels, names))), (("idle", "other"), (aid, (labels, names))),
                     ((), (aid, ((), ()), (labels, names))), (("aid",), (aid, (labels, names))), ((0,), (aid, (labels, names))),
                     (([],), (aid, (labels, names))), (functions, (aid, (labels + labels, names))), (functions, (aid, (labels, names + names[:1]))),
                     (functions, (aid, (labels, names + (77,)))), (functions, (aid, (labels + (77,), names))), (functions, (aid, (labels, names + (25,)))),
                     (functions, (aid, (labels, names + (0,)))), (functions, (aid, (labels, names[1:]))), (functions, (aid, ((), names))),
                     (functions, (aid, (labels, (True,) + names[1:]))), (functions, (aid, ((9, None), names))), (functions, (aid, (labels, (None,)))),
                     (functions, (aid, (labels, names + ("a",)))), (functions, (aid, None)), (functions, None), (None, (aid, (labels, names)))):
            with self.subTest(body=body):
                self.wrong(PROGRAM, AFTER, ("dropped", body))

    def test_params_of_the_function_stay(self):
        program = main_of((5, (), (), ("give", 0)))
        after = main_of((5, (), (), ("give", 0)), params=((0, 0),))
        self.wrong(program, after, ("dropped", ((), (((), (90,)),))))
        self.wrong(program, program, ("dropped", ((), (((), (90,)),))))
        self.wrong(program, after, ("dropped", ((), (((), ()),))))

    def test_after_is_the_same_otherwise(self):
        for after, place in (
                (with_block(AFTER, 5, rows=((3, "list", None, (90,)),)), ("main", 5, 0)),
                (with_block(AFTER, 5, rows=((30, "list", None, (0,)),)), ("main", 5, 0)),
                (with_block(AFTER, 5, rows=((3, "list", None, (0,)), (1, "num", 3, ()))), ("main", 5, 1)),
                (with_block(AFTER, 5, rows=((1, "num", 3, ()), (3, "list", None, (0,)))), ("main", 5, 0)),
                (with_block(AFTER, 5, rows=()), None),
                (with_block(AFTER, 5, end=("branch", 90, 6, (0,), 7, ())), ("main", 5, 1)),
                (with_block(AFTER, 5, end=("branch", 0, 6, (90,), 7, ())), ("main", 5, 1)),
                (with_block(AFTER, 5, end=("branch", 0, 7, (), 6, (0,))), ("main", 5, 1)),
                (with_block(AFTER, 5, end=("branch", 0, 6, (90, 0), 7, ())), ("main", 5, 1)),
                (with_block(AFTER, 7, end=("jump", 8, (0,))), ("main", 7, 0)),
                (with_block(AFTER, 8, end=("give", 0)), ("main", 8, 0)),
                (with_block(AFTER, 6, params=((20, 0),), rows=((23, "call", "aid", (20,)),)), ("main", 6, -1)),
                (AFTER[::-1], None), (AFTER[1:], None), (PROGRAM, None), (AFTER + (IDLE,), None),
                (with_block(AFTER, 3, "aid", rows=((1, "num", 0, ()),)), ("aid", 3, 0)),
                ((AID[:2] + (0, ((4,) + AID[3][0][1:],)),) + AFTER[1:], ("aid", 4, -1))):
            self.wrong(PROGRAM, after, PAPER, place)

    def test_a_block_in_another_order(self):
        main = AFTER[1]
        self.wrong(PROGRAM, (AID, main[:3] + ((main[3][0], main[3][2], main[3][1], main[3][3]),)), PAPER)
        self.wrong(PROGRAM, (AID, main[:3] + (main[3] + ((9, (), (), ("give", 0)),),)), PAPER)


class TestDrop(unittest.TestCase):
    def check(self, program, seed=0):
        outcome, paper = drop(program)
        self.assertIsNone(dropped_wrong(program, outcome, paper))
        self.look_through(outcome)
        for k in range(2):
            inputs = inputs_for(program, seed + k)
            for bound in (0, 1, 7, 50):
                before, after = middle_run(program, inputs, bound), middle_run(outcome, inputs, bound)
                self.assertEqual(before[:3], after[:3])
                self.assertLessEqual(after[3], before[3])
        self.assertEqual((outcome, ("dropped", ((), (((), ()),) * len(outcome)))), drop(outcome))
        return outcome

    def look_through(self, program):
        """Nothing is left that isn't wanted."""
        calls = {function[0]: [row[2] for block in function[3] for row in block[2] if row[1] == "call"] for function in program}
        called = ["main"]
        for name in called:
            called += [other for other in calls[name] if other not in called]
        self.assertEqual(set(calls), set(called))
        for function in program:
            self.assertEqual(set(labels_met(function)), {block[0] for block in function[3]})
            self.assertEqual(set(), self.idle_names(function))

    def idle_names(self, function):
        """Names that only such rows and params use as could go with them: found by taking away, not by following uses."""
        rows, params = rows_by_name(function), params_by_name(function)
        idle = {name for name in list(rows) + list(params) if name in params or rows[name][2][1] in SAFE + ("new", "get")}
        while True:
            used = set()
            for label, own, there, end in function[3]:
                used |= {arg for row in there for arg in row[3] if row[0] not in idle} | set(used_by(end))
                for led, args in ways_of(end):
                    used |= {arg for arg, name in zip(args, param_names(block_of(function, led)[1])) if name not in idle}
            if not idle & used:
                return idle
            idle -= used

    def test_as_told(self):
        outcome, paper = drop(PROGRAM)
        self.assertEqual(AFTER, outcome)
        self.assertEqual(("idle",), paper[1][0])

    def test_functions_called_by_none(self):
        leaf = ("leaf", (), 0, ((0, (), ((0, "num", 1, ()),), ("give", 0)),))
        mid = ("mid", (), 0, ((0, (), ((0, "call", "leaf", ()),), ("give", 0)),))
        one = ("one", (), 0, ((0, (), ((0, "call", "two", ()),), ("give", 0)),))
        two = ("two", (), 0, ((0, (), ((0, "call", "one", ()), (1, "call", "leaf", ())), ("give", 0)),))
        idle = main_of((0, (), (), ("give", 0)), (1, (), ((1, "call", "mid", ()),), ("give", 1)))
        self.assertEqual(["main"], [function[0] for function in self.check((leaf, mid, one, two) + idle)])
        main = main_of((0, (), ((1, "call", "mid", ()),), ("give", 0)))
        self.assertEqual(["leaf", "mid", "main"], [function[0] for function in self.check((leaf, mid, one, two) + main)])

    def test_round_a_ring(self):
        # 20, 21 and 30 want one another alone; 22 is wanted by the branch, and 31 by it.
        program = main_of((5, (), ((1, "num", 1, ()), (2, "new", 1, ())), ("jump", 6, (1, 0, 0))),
                          (6, ((20, 0), (21, 0), (22, 0)), ((29, "tick", None, ()), (30, "+", None, (20, 21)), (31, "-", None, (22, 1))),
                           ("branch", 22, 6, (30, 20, 31), 7, ())), (7, (), ((32, "get", 0, (2,)),), ("give", 22)))
        self.assertEqual(main_of((5, (), ((1, "num", 1, ()),), ("jump", 6, (0,))),
                                 (6, ((22, 0),), ((29, "tick", None, ()), (31, "-", None, (22, 1))), ("branch", 22, 6, (31,), 7, ())),
                                 (7, (), (), ("give", 22))), self.check(program))

    def test_a_record_that_is_set_stays(self):
        program = main_of((5, (), ((1, "new", 1, ()), (2, "set", 0, (1, 0)), (3, "get", 0, (1,)), (4, "new", 2, ()), (6, "get", 1, (4,))), ("give", 0)))
        self.assertEqual([1, 2], [row[0] for row in self.check(program)[0][3][0][2]])

    def test_drawn_programs(self):
        for seed in range(400):
            with self.subTest(seed=seed):
                program = self.check(drawn(seed), seed)
                self.check(know(program)[0], seed)
        for seed in range(150):
            with self.subTest(seed=seed):
                self.check(know(lower(grown(seed))[0])[0], seed)

    def test_the_same_is_told_again(self):
        program = drawn(21)
        first = drop(program)
        drop(drawn(22))
        self.assertEqual(first, drop(drawn(21)))
        self.assertEqual(drawn(21), program)


if __name__ == "__main__":
    unittest.main()
