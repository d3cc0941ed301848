"""Points 12, 14 and 15: facts of names, and programs changed by them."""

import unittest

from spoiling import NO_PAPERS, Checking, main_of, with_block

from passpapers.facts import facts_wrong
from passpapers.middle import block_of

# Names 1 to 4 are known as 0, 1, 7, 2.
NUMBERS = ((1, "num", 0, ()), (2, "num", 1, ()), (3, "num", 7, ()), (4, "num", 2, ()))
KNOWN = ((1, "is", 0, "row"), (2, "is", 1, "row"), (3, "is", 7, "row"), (4, "is", 2, "row"))


def of_rows(*rows):
    return main_of((5, (), NUMBERS + rows, ("give", 0)))


def paper_of(*facts):
    return ("facts", (KNOWN + facts,))


class CheckingFacts(Checking):
    checkers = (facts_wrong,)

    def holds(self, program, *facts):
        self.let_by(program, program, paper_of(*facts))

    def fails(self, program, *facts, place=None):
        self.wrong(program, program, paper_of(*facts), place)


class TestRuleRow(CheckingFacts):
    def test_is(self):
        for op, told, args, number in (
                ("num", 5, (), 5), ("num", -32768, (), -32768), ("copy", None, (3,), 7), ("+", None, (3, 4), 9),
                ("-", None, (4, 3), -5), ("*", None, (3, 4), 14), ("/", None, (3, 4), 3), ("rest", None, (3, 4), 1),
                ("<", None, (4, 3), 1), ("=", None, (3, 4), 0), ("and", None, (3, 4), 1), ("or", None, (1, 1), 0),
                ("not", None, (3,), 0), ("not", None, (1,), 1), ("*", None, (0, 1), 0), ("*", None, (1, 0), 0),
                ("and", None, (0, 1), 0), ("and", None, (1, 0), 0), ("-", None, (0, 0), 0), ("<", None, (0, 0), 0),
                ("=", None, (0, 0), 1), ("or", None, (0, 3), 1), ("or", None, (4, 0), 1)):
            with self.subTest(op=op, args=args):
                program = of_rows((10, op, told, args))
                self.holds(program, (10, "is", number, "row"))
                self.fails(program, (10, "is", number + 1, "row"), place=("main", 5, 4))
                self.fails(program, (10, "is", number - 65536, "row"), place=("main", 5, 4))
                for rule in ("like", "way"):
                    self.fails(program, (10, "is", number, rule))

    def test_is_not(self):
        for op, args in (("/", (3, 1)), ("rest", (3, 1)), ("/", (1, 1)), ("+", (0, 1)), ("/", (0, 2)), ("rest", (0, 2)),
                         ("/", (1, 0)), ("rest", (0, 0)), ("/", (0, 0)), ("or", (0, 1)), ("and", (0, 3)), ("=", (0, 90)),
                         ("-", (0, 90)), ("<", (0, 90)), ("*", (0, 2)), ("not", (0,)), ("copy", (0,)), ("out", (1,))):
            for number in (-1, 0, 1, 7):
                with self.subTest(op=op, args=args, number=number):
                    self.fails(of_rows((10, op, None, args)), (10, "is", number, "row"), place=("main", 5, 4))

    def test_is_wants_the_args_facts(self):
        program = of_rows((10, "+", None, (3, 4)), (11, "copy", None, (10,)))
        self.holds(program, (10, "is", 9, "row"), (11, "is", 9, "row"))
        self.fails(program, (11, "is", 9, "row"))
        self.wrong(program, program, ("facts", (KNOWN[:3] + ((10, "is", 9, "row"),),)))

    def test_sums_are_wrapped(self):
        program = of_rows((10, "num", 32767, ()), (11, "+", None, (10, 2)), (12, "num", -32768, ()), (13, "num", -1, ()),
                          (14, "/", None, (12, 13)))
        known = (10, "is", 32767, "row"), (12, "is", -32768, "row"), (13, "is", -1, "row")
        self.holds(program, *known, (11, "is", -32768, "row"), (14, "is", -32768, "row"))
        self.fails(program, *known, (11, "is", 32768, "row"))
        self.fails(program, *known, (14, "is", 32768, "row"))

    def test_same(self):
        for op, args in (("copy", (0,)), ("+", (0, 1)), ("+", (1, 0)), ("*", (0, 2)), ("*", (2, 0)), ("-", (0, 1)), ("/", (0, 2))):
            with self.subTest(op=op, args=args):
                program = of_rows((10, op, None, args), (11, op, None, tuple(10 if arg == 0 else arg for arg in args)))
                self.holds(program, (10, "same", 0, "row"))
                self.holds(program, (10, "same", 0, "row"), (11, "same", 0, "row"))
                self.holds(program, (11, "same", 10, "row"))
                self.fails(program, (11, "same", 0, "row"), place=("main", 5, 5))
                # The other name has a fact "same" itself, so it is nobody's root.
                self.fails(program, (10, "same", 0, "row"), (11, "same", 10, "row"))
                for which in (90, 1, 2, 10, 11, 77):
                    self.fails(program, (10, "same", which, "row"), place=("main", 5, 4))
                for rule in ("like", "way"):
                    self.fails(program, (10, "same", 0, rule))

    def test_same_not(self):
        for op, args in (("-", (1, 0)), ("/", (2, 0)), ("+", (0, 2)), ("+", (2, 0)), ("*", (0, 1)), ("*", (0, 4)), ("-", (0, 2)),
                         ("/", (0, 1)), ("/", (0, 4)), ("rest", (0, 2)), ("and", (0, 2)), ("or", (0, 1)), ("=", (0, 2)),
                         ("<", (1, 0)), ("not", (0,)), ("+", (0, 90)), ("out", (0,))):
            with self.subTest(op=op, args=args):
                self.fails(of_rows((10, op, None, args)), (10, "same", 0, "row"), place=("main", 5, 4))

    def test_known_by_its_root(self):
        program = of_rows((10, "copy", None, (3,)), (11, "copy", None, (10,)), (12, "*", None, (10, 4)), (13, "=", None, (11, 3)))
        same = (10, "same", 3, "row"), (11, "same", 3, "row")
        self.holds(program, *same, (12, "is", 14, "row"), (13, "is", 1, "row"))
        self.fails(program, (11, "same", 3, "row"), (12, "is", 14, "row"))
        # Alike by their numbers, without one root.
        program = of_rows((10, "num", 7, ()), (11, "=", None, (3, 10)), (12, "-", None, (10, 3)))
        self.holds(program, (10, "is", 7, "row"), (11, "is", 1, "row"), (12, "is", 0, "row"))
        self.fails(program, (11, "is", 1, "row"))

    def test_records_and_lists(self):
        program = of_rows((10, "new", 2, ()), (11, "copy", None, (10,)), (12, "list", None, (4,)), (13, "copy", None, (12,)))
        self.holds(program, (11, "same", 10, "row"), (13, "same", 12, "row"))
        for fact in ((11, "same", 12, "row"), (13, "same", 10, "row"), (13, "same", 4, "row"), (10, "same", 11, "row")):
            self.fails(program, fact)


class TestRuleLike(CheckingFacts):
    def test_sums_and_long(self):
        lists = (20, "list", None, (4,)), (21, "copy", None, (20,))
        for op in ("+", "-", "*", "/", "rest", "<", "=", "and", "or"):
            with self.subTest(op=op):
                program = of_rows((10, op, None, (0, 90)), (11, op, None, (0, 90)), (12, op, None, (90, 0)), (13, "copy", None, (0,)),
                                  (14, op, None, (13, 90)))
                self.holds(program, (11, "same", 10, "like"))
                self.holds(program, (13, "same", 0, "row"), (14, "same", 11, "like"))
                self.fails(program, (14, "same", 11, "like"), place=("main", 5, 8))
                self.fails(program, (12, "same", 11, "like"), place=("main", 5, 6))
                self.fails(program, (11, "same", 10, "row"))
                self.fails(program, (11, "same", 10, "way"))
                # The other row stands behind this one.
                self.fails(program, (10, "same", 11, "like"), place=("main", 5, 4))
        self.holds(of_rows((10, "not", None, (0,)), (11, "not", None, (0,))), (11, "same", 10, "like"))
        program = of_rows(*lists, (10, "long", None, (20,)), (11, "long", None, (21,)))
        self.holds(program, (21, "same", 20, "row"), (11, "same", 10, "like"))
        self.fails(program, (11, "same", 10, "like"))

    def test_alike_by_numbers(self):
        program = of_rows((10, "num", 7, ()), (11, "+", None, (0, 3)), (12, "+", None, (0, 10)), (13, "-", None, (0, 3)))
        self.holds(program, (10, "is", 7, "row"), (12, "same", 11, "like"))
        self.fails(program, (12, "same", 11, "like"))
        self.fails(program, (10, "is", 7, "row"), (13, "same", 11, "like"))

    def test_other_ops(self):
        for op, told, args in (("num", 3, ()), ("copy", None, (0,)), ("new", 2, ()), ("out", None, (0,)), ("tick", None, ()),
                               ("list", None, (4,)), ("get", 0, (20,)), ("at", None, (21, 1)), ("call", "main", (0, 90))):
            with self.subTest(op=op):
                program = of_rows((20, "new", 2, ()), (21, "list", None, (4,)), (10, op, told, args), (11, op, told, args))
                self.fails(program, (11, "same", 10, "like"), place=("main", 5, 7))

    def test_the_other_name_is_no_row(self):
        program = main_of((5, (), NUMBERS, ("jump", 6, (0,))), (6, ((10, 0),), ((11, "not", None, (10,)),), ("give", 11)))
        self.fails(program, (11, "same", 10, "like"))
        self.fails(program, (11, "same", 0, "like"))

    def test_a_row_elsewhere(self):
        program = main_of(
            (5, (), NUMBERS + ((10, "+", None, (0, 90)),), ("branch", 0, 6, (), 7, ())),
            (6, (), ((11, "+", None, (0, 90)), (12, "-", None, (0, 90))), ("jump", 8, ())),
            (7, (), ((13, "-", None, (0, 90)),), ("jump", 8, ())),
            (8, (), ((14, "-", None, (0, 90)), (15, "+", None, (0, 90))), ("give", 15)))
        self.holds(program, (11, "same", 10, "like"), (15, "same", 10, "like"))
        for name, which in ((13, 12), (14, 12), (14, 13), (15, 11)):
            self.fails(program, (name, "same", which, "like"))
        self.fails(program, (14, "same", 12, "like"), place=("main", 8, 0))


def joined(first, second, *rows):
    """Two ways come together in block 8, with params 20 and 21."""
    return main_of(
        (5, (), NUMBERS + ((10, "num", 7, ()), (11, "copy", None, (0,))), ("branch", 0, 6, (), 7, ())),
        (6, (), ((12, "copy", None, (0,)),), ("jump", 8, first)), (7, (), ((13, "copy", None, (0,)),), ("jump", 8, second)),
        (8, ((20, 0), (21, 0)), rows, ("give", 20)))


COPIES = (10, "is", 7, "row"), (11, "same", 0, "row"), (12, "same", 0, "row"), (13, "same", 0, "row")


class TestRuleWay(CheckingFacts):
    def test_is(self):
        program = joined((3, 0), (10, 0))
        self.holds(program, *COPIES, (20, "is", 7, "way"))
        self.fails(program, *COPIES, (20, "is", 8, "way"))
        self.fails(program, *COPIES[1:], (20, "is", 7, "way"), place=("main", 7, 1))
        for rule in ("row", "like"):
            self.fails(program, *COPIES, (20, "is", 7, rule), place=("main", 8, -1))
        self.fails(joined((3, 0), (4, 0)), *COPIES, (20, "is", 7, "way"), place=("main", 7, 1))
        self.fails(joined((0, 0), (3, 0)), *COPIES, (20, "is", 7, "way"), place=("main", 6, 1))

    def test_same_as_a_name_ahead(self):
        program = joined((11, 12), (13, 0))
        self.holds(program, *COPIES, (20, "same", 0, "way"), (21, "same", 0, "way"))
        for rule in ("row", "like"):
            self.fails(program, *COPIES, (20, "same", 0, rule))
        for which in (11, 90, 3, 12, 20, 99):
            self.fails(program, *COPIES, (20, "same", which, "way"))
        # Without that fact its argument has another root.
        self.fails(program, *COPIES[:3], (20, "same", 0, "way"), place=("main", 7, 1))
        self.holds(joined((11, 12), (11, 0)), COPIES[0], (20, "same", 11, "way"))
        self.fails(joined((11, 12), (11, 0)), *COPIES, (20, "same", 11, "way"))
        # The name is known on both ways as the same number, but it has another root.
        self.fails(joined((3, 0), (10, 0)), *COPIES, (20, "same", 3, "way"))

    def test_same_as_a_param_of_the_block(self):
        program = joined((11, 12), (90, 90))
        self.holds(program, *COPIES, (20, "same", 21, "way"))
        self.holds(program, *COPIES, (21, "same", 20, "way"))
        self.fails(program, *COPIES, (20, "same", 21, "way"), (21, "same", 20, "way"))
        self.fails(program, COPIES[0], (20, "same", 21, "way"), place=("main", 6, 1))
        self.fails(joined((11, 12), (90, 0)), *COPIES, (20, "same", 21, "way"), place=("main", 7, 1))
        # Known as the same number, without one root.
        self.fails(joined((3, 10), (90, 90)), *COPIES, (20, "same", 21, "way"), place=("main", 6, 1))

    def test_a_name_that_is_not_visible(self):
        program = joined((12, 12), (13, 13), (22, "not", None, (20,)))
        self.fails(program, COPIES[0], (20, "same", 12, "way"), place=("main", 8, -1))
        self.fails(program, *COPIES, (20, "same", 22, "way"), place=("main", 8, -1))

    def round(self, back, params=((20, 0), (21, 0))):
        return main_of((5, (), NUMBERS, ("jump", 6, (0, 3))),
                       (6, params, ((30, "tick", None, ()), (31, "copy", None, (20,)), (32, "+", None, (21, 1))),
                        ("branch", 90, 6, back, 7, ())),
                       (7, (), (), ("give", 20)))

    def test_round_a_ring(self):
        self.holds(self.round((20, 21)), (20, "same", 0, "way"), (21, "is", 7, "way"))
        self.holds(self.round((31, 32)), (20, "same", 0, "way"), (31, "same", 0, "row"), (21, "is", 7, "way"), (32, "is", 7, "row"))
        self.holds(self.round((31, 32)), (21, "same", 3, "way"), (32, "same", 3, "row"))
        self.fails(self.round((31, 32)), (20, "same", 0, "way"), place=("main", 6, 3))
        self.fails(self.round((31, 32)), (21, "is", 7, "way"), place=("main", 6, 3))
        self.fails(self.round((21, 20)), (20, "same", 0, "way"), (21, "same", 3, "way"))
        self.fails(self.round((30, 21)), (20, "same", 0, "way"))
        # At the porch both are told apart, though they go round alike.
        self.fails(self.round((20, 20)), (21, "same", 20, "way"), place=("main", 5, 4))

    def test_ends_of_blocks_to_which_no_way_leads(self):
        program = main_of((5, (), NUMBERS, ("jump", 6, (0, 3))), (6, ((20, 0), (21, 0)), (), ("give", 20)),
                          (7, (), (), ("jump", 6, (90, 4))))
        self.fails(program, (20, "same", 0, "way"), place=("main", 7, 0))
        self.fails(program, (21, "is", 7, "way"), place=("main", 7, 0))
        right = with_block(program, 7, end=("jump", 6, (0, 3)))
        self.holds(right, (20, "same", 0, "way"), (21, "is", 7, "way"))

    def test_blocks_to_which_no_way_leads(self):
        program = main_of((5, (), NUMBERS + ((10, "list", None, (4,)),), ("give", 0)),
                          (6, ((20, 0), (21, 0)), ((22, "+", None, (23, 0)), (23, "+", None, (22, 1))), ("give", 20)))
        # No end leads there, so any will do; but not another kind.
        self.holds(program, (20, "is", 5, "way"), (21, "same", 22, "way"))
        self.fails(program, (20, "same", 10, "way"), place=("main", 6, -1))
        self.holds(program, (23, "same", 22, "row"))
        self.fails(program, (22, "same", 23, "row"))
        # A row behind is visible there, too.
        program = with_block(program, 6, rows=((22, "not", None, (0,)), (23, "not", None, (0,))))
        self.holds(program, (22, "same", 23, "like"))

    def test_params_of_the_function(self):
        program = of_rows()
        for fact in ((0, "is", 0, "way"), (0, "is", 0, "row"), (0, "same", 90, "way"), (90, "same", 0, "like"), (0, "same", 0, "way")):
            self.fails(program, fact)

    def test_params_of_records_and_lists(self):
        program = main_of((5, (), NUMBERS + ((10, "new", 2, ()), (11, "list", None, (4,))), ("jump", 6, (10, 11))),
                          (6, ((20, 2), (21, -1)), (), ("give", 0)))
        self.holds(program, (20, "same", 10, "way"), (21, "same", 11, "way"))
        self.fails(program, (20, "same", 11, "way"))


class TestFactsForm(CheckingFacts):
    def test_no_papers(self):
        program = of_rows()
        for paper in NO_PAPERS:
            with self.subTest(paper=paper):
                self.wrong(program, program, paper, ("", -1, -1))
        for told in (None, 0, KNOWN[0], KNOWN + KNOWN):
            self.wrong(program, program, ("facts", (told,)), ("main", -1, -1))

    def test_entries(self):
        program = of_rows((10, "copy", None, (0,))) + (("aid", ((0, 0),), 0, ((3, (), ((1, "num", 4, ()),), ("give", 1)),)),)
        mains, aids = KNOWN + ((10, "same", 0, "row"),), ((1, "is", 4, "row"),)
        self.let_by(program, program, ("facts", (mains, aids)))
        self.let_by(program, program, ("facts", (mains[::-1], aids)))
        self.let_by(program, program, ("facts", ((), ())))
        for body in ((), (mains,), (mains, aids, ()), (aids, mains), [mains, aids], (list(mains), aids), (mains, None), (mains, 0),
                     (mains, aids[0]), (mains, aids + aids), (mains, aids + ((1, "is", 4, "row"),)),
                     (mains, ((0, "is", 4, "row"),)), (mains, ((7, "is", 4, "row"),)), (mains, ((1, "is", 4),)),
                     (mains, ((1, "is", 4, "row", 0),)), (mains, (list(aids[0]),)), (mains, ((1, "was", 4, "row"),)),
                     (mains, ((1, "is", 4, "rows"),)), (mains, ((1, "is", "4", "row"),)), (mains, (("1", "is", 4, "row"),)),
                     (mains, ((None, "is", 4, "row"),)), (mains, (([], "is", 4, "row"),)), (mains, ((1, [], 4, "row"),)),
                     (mains, ((1, "same", None, "row"),)), (mains, ((1, "same", 1, "row"),)), (mains, ((1, "same", (), "row"),))):
            with self.subTest(body=body):
                self.wrong(program, program, ("facts", body))

    def test_other_words(self):
        program = of_rows((10, "+", None, (0, 90)), (11, "+", None, (0, 90)), (12, "copy", None, (0,)))
        self.holds(program, (11, "same", 10, "like"), (12, "same", 0, "row"))
        for fact in ((11, "same", 10, "liked"), (11, "same", 10, None), (11, "like", 10, "like"), (12, "was", 0, "row"), (12, None, 0, "row"),
                     (11, "is", 10, "like"), (12, "same", 0, "rows")):
            self.fails(program, fact)

    def test_names_that_are_not_there(self):
        program = of_rows()
        for name in (0, 90, 77, -1):
            self.fails(program, (name, "is", 0, "row"), place=("main", -1, -1))

    def test_a_name_with_two_facts(self):
        program = of_rows((10, "copy", None, (3,)))
        self.holds(program, (10, "same", 3, "row"))
        self.holds(program, (10, "is", 7, "row"))
        self.fails(program, (10, "same", 3, "row"), (10, "is", 7, "row"))
        self.fails(program, (3, "is", 7, "row"))

    def test_truths_are_no_numbers(self):
        program = of_rows((10, "copy", None, (2,)), (11, "num", 1, ()))
        self.fails(program, (11, "is", True, "row"))
        self.fails(program, (10, "is", True, "row"))
        self.fails(main_of((5, (), (), ("give", 1)), params=((1, 0), (2, 0))), (True, "is", 1, "row"))
        self.wrong(program, program, ("facts", (((True, "is", 0, "row"),),)))

    def test_other_functions_blocks_and_params(self):
        program = of_rows() + (("aid", ((0, 0),), 0, ((3, (), (), ("give", 0)),)),)
        paper = ("facts", (KNOWN, ()))
        self.let_by(program, program, paper)
        main, aid = program
        self.wrong(program, (aid, main), ("facts", ((), KNOWN)))
        self.wrong(program, (main,), paper, ("", -1, -1))
        self.wrong(program, program + (("other", (), 0, ((3, (), ((0, "num", 1, ()),), ("give", 0)),)),), paper)
        self.wrong(program, (main, ("aide",) + aid[1:]), paper, ("aide", -1, -1))
        self.wrong(program, (main, ("aid", ((0, 1),), 1) + aid[3:]), paper, ("aid", -1, -1))
        self.wrong(program, (main, ("aid", ((7, 0),), 0, ((3, (), (), ("give", 7)),))), paper, ("aid", -1, -1))
        self.wrong(program, (main, aid[:3] + (((4, (), (), ("give", 0)),),)), paper, ("aid", 4, -1))
        self.wrong(program, (main, aid[:3] + (aid[3] + ((4, (), (), ("give", 0)),),)), paper, ("aid", -1, -1))
        self.wrong(program, (main, aid[:3] + (((4, (), (), ("give", 0)),) + aid[3],)), paper)


class TestChanges(CheckingFacts):
    ROWS = ((10, "copy", None, (0,)), (11, "+", None, (10, 1)), (12, "/", None, (3, 4)), (13, "/", None, (0, 4)),
            (14, "*", None, (0, 90)), (15, "*", None, (11, 90)), (16, "out", None, (11,)), (17, "num", 7, ()))
    FACTS = ((10, "same", 0, "row"), (11, "same", 0, "row"), (12, "is", 3, "row"), (15, "same", 14, "like"), (17, "is", 7, "row"))

    def setUp(self):
        self.program = of_rows(*self.ROWS)

    def become(self, index, *row):
        """The program with another row, of the same name, at that index of ROWS."""
        rows = block_of(self.program[0], 5)[2]
        at = len(NUMBERS) + index
        return with_block(self.program, 5, rows=rows[:at] + (rows[at][:1] + row,) + rows[at + 1:])

    def test_allowed(self):
        for change in ((1, "+", None, (0, 1)), (1, "copy", None, (0,)), (1, "copy", None, (10,)), (2, "num", 3, ()),
                       (2, "/", None, (3, 4)), (3, "/", None, (10, 4)), (3, "/", None, (0, 4)), (4, "*", None, (11, 90)),
                       (5, "copy", None, (14,)), (5, "*", None, (10, 90)), (6, "out", None, (0,)), (6, "out", None, (10,)),
                       (0, "copy", None, (0,)), (2, "/", None, (3, 4))):
            with self.subTest(change=change):
                self.let_by(self.program, self.become(*change), paper_of(*self.FACTS))

    def test_allowed_together(self):
        after = of_rows((10, "copy", None, (0,)), (11, "copy", None, (0,)), (12, "num", 3, ()), (13, "/", None, (11, 4)),
                        (14, "*", None, (10, 90)), (15, "copy", None, (14,)), (16, "out", None, (0,)), (17, "num", 7, ()))
        self.let_by(self.program, with_block(after, 5, end=("give", 11)), paper_of(*self.FACTS))
        after = with_block(self.program, 5, rows=block_of(self.program[0], 5)[2][:4] + self.ROWS[:2] + (
            (12, "/", None, (3, 4)),) + self.ROWS[3:])
        self.let_by(self.program, after, paper_of(*self.FACTS))

    def test_not_allowed(self):
        for change in ((0, "copy", None, (90,)), (0, "num", 0, ()), (0, "not", None, (0,)), (1, "+", None, (90, 1)),
                       (1, "+", None, (10, 2)), (1, "+", None, (1, 10)), (1, "-", None, (10, 1)), (1, "copy", None, (90,)),
                       (1, "copy", None, (1,)), (1, "num", 0, ()), (2, "num", 4, ()), (2, "copy", None, (3,)), (2, "num", 7, ()),
                       (3, "num", 3, ()), (3, "copy", None, (0,)), (3, "rest", None, (0, 4)), (3, "/", None, (0, 3)),
                       (4, "copy", None, (0,)), (4, "copy", None, (11,)), (4, "num", 0, ()), (5, "copy", None, (11,)), (5, "num", 1, ()),
                       (6, "out", None, (90,)), (6, "num", 0, ()), (6, "copy", None, (0,)), (7, "num", 8, ()), (7, "copy", None, (3,))):
            with self.subTest(change=change):
                self.wrong(self.program, self.become(*change), paper_of(*self.FACTS), ("main", 5, len(NUMBERS) + change[0]))

    def test_quotients(self):
        rows = (10, "/", None, (3, 1)), (11, "rest", None, (3, 4)), (12, "/", None, (0, 2)), (13, "/", None, (0, 90)), (14, "/", None, (0, 90))
        program = of_rows(*rows)
        facts = (11, "is", 1, "row"), (12, "same", 0, "row"), (14, "same", 13, "like")
        after = of_rows(rows[0], (11, "num", 1, ()), (12, "copy", None, (0,)), rows[3], (14, "copy", None, (13,)))
        self.let_by(program, after, paper_of(*facts))
        self.wrong(program, of_rows((10, "num", 0, ()), *rows[1:]), paper_of(*facts), ("main", 5, 4))
        self.wrong(program, of_rows(*rows[:3], (13, "num", 0, ()), rows[4]), paper_of(*facts), ("main", 5, 7))
        # By one that isn't known, though the name is: in a block to which no way leads.
        program = main_of((5, (), NUMBERS, ("give", 0)), (6, (), ((10, "/", None, (0, 90)), (11, "/", None, (0, 90))), ("jump", 7, (10,))),
                          (7, ((12, 0),), (), ("give", 12)))
        self.holds(program, (11, "same", 10, "like"), (12, "same", 10, "way"))
        self.wrong(program, with_block(program, 6, rows=((10, "/", None, (0, 90)), (11, "num", 0, ()))),
                   paper_of((11, "same", 10, "like")), ("main", 6, 1))

    def test_a_quotient_known_in_vain(self):
        # Params round a ring to which no way leads are known as whatever one likes; a quotient by such a one isn't safe.
        program = main_of((5, (), NUMBERS, ("give", 0)),
                          (6, ((10, 0), (11, 0)), ((12, "tick", None, ()), (13, "/", None, (10, 11)), (14, "/", None, (10, 11))),
                           ("jump", 6, (10, 11))))
        facts = (10, "is", 6, "way"), (11, "is", 3, "way"), (13, "is", 2, "row"), (14, "same", 13, "like")
        self.holds(program, *facts)
        num = ((12, "tick", None, ()), (13, "num", 2, ()), (14, "num", 2, ()))
        self.let_by(program, with_block(program, 6, rows=num), paper_of(*facts))
        self.fails(program, facts[0], (11, "is", 0, "way"), (13, "is", 2, "row"))
        self.wrong(program, with_block(program, 6, rows=num), paper_of(facts[0], (11, "is", 0, "way")), ("main", 6, 1))

    def test_a_copy_of_itself(self):
        program = main_of((5, (), NUMBERS, ("give", 0)), (6, (), ((10, "copy", None, (0,)), (11, "copy", None, (10,))), ("give", 10)))
        self.wrong(program, with_block(program, 6, rows=((10, "copy", None, (10,)), (11, "copy", None, (0,)))),
                   paper_of((10, "same", 0, "row"), (11, "same", 0, "row")), ("main", 6, 0))

    def test_a_copy_without_a_fact_of_its_own(self):
        # 11 is told the same as 10, not 10 as 11.
        program = main_of((5, (), NUMBERS, ("give", 0)), (6, (), ((10, "not", None, (0,)), (11, "+", None, (10, 1))), ("give", 10)))
        self.holds(program, (11, "same", 10, "row"))
        self.wrong(program, with_block(program, 6, rows=((10, "copy", None, (11,)), (11, "+", None, (10, 1)))), paper_of((11, "same", 10, "row")),
                   ("main", 6, 0))

    def test_rows_in_order(self):
        rows = block_of(self.program[0], 5)[2]
        paper = paper_of(*self.FACTS)
        self.wrong(self.program, with_block(self.program, 5, rows=rows[:-1]), paper)
        self.wrong(self.program, with_block(self.program, 5, rows=rows[:4] + rows[5:-1]), paper)
        for index in range(len(rows) + 1):
            extra = with_block(self.program, 5, rows=rows[:index] + ((50, "num", 7, ()),) + rows[index:])
            self.wrong(self.program, extra, paper, ("main", 5, index))
        two = rows + ((50, "num", 7, ()), (51, "num", 7, ()))
        self.wrong(self.program, with_block(self.program, 5, rows=two), paper, ("main", 5, len(rows)))
        self.wrong(self.program, with_block(self.program, 5, rows=rows[:-2] + (rows[-1], rows[-2])), paper)
        # One row too far back, and one too far ahead.
        self.wrong(self.program, with_block(self.program, 5, rows=rows[1:4] + rows[:1] + rows[4:]), paper, ("main", 5, 3))
        self.wrong(self.program, with_block(self.program, 5, rows=rows[3:4] + rows[:3] + rows[4:]), paper, ("main", 5, 0))
        self.wrong(self.program, with_block(self.program, 5, rows=rows[:-1] + ((51, "num", 7, ()),)), paper, ("main", 5, 11))

    def test_what_the_look_refuses(self):
        self.wrong(self.program, self.become(1, "+", None, (17, 1)), paper_of(*self.FACTS), ("main", 5, 5))
        self.wrong(self.program, self.become(1, "sum", None, (0, 1)), paper_of(*self.FACTS), ("main", 5, 5))
        self.wrong(self.program, (), paper_of(*self.FACTS))
        self.wrong(self.program, None, paper_of(*self.FACTS))


class TestEnds(CheckingFacts):
    PROGRAM = main_of(
        (5, (), NUMBERS + ((10, "copy", None, (0,)),), ("branch", 10, 6, (3, 10), 7, ())),
        (6, ((20, 0), (21, 0)), (), ("branch", 20, 8, (21,), 9, (0, 3))), (7, (), (), ("branch", 1, 8, (0,), 9, (90, 4))),
        (8, ((22, 0),), (), ("give", 22)), (9, ((23, 0), (24, 0)), (), ("fail", 3)))
    PAPER = paper_of((10, "same", 0, "row"), (20, "is", 7, "way"), (21, "same", 0, "way"))

    def end(self, label, end):
        return with_block(self.PROGRAM, label, end=end)

    def test_allowed(self):
        self.let_by(self.PROGRAM, self.PROGRAM, self.PAPER)
        for label, end in ((5, ("branch", 0, 6, (3, 0), 7, ())), (6, ("branch", 3, 8, (10,), 9, (21, 20))), (6, ("jump", 8, (0,))),
                           (6, ("jump", 8, (21,))), (7, ("jump", 9, (90, 4))), (6, ("branch", 20, 8, (21,), 9, (0, 3)))):
            with self.subTest(end=end):
                self.let_by(self.PROGRAM, self.end(label, end), self.PAPER)

    def test_not_allowed(self):
        for label, end in ((5, ("branch", 90, 6, (3, 10), 7, ())), (5, ("branch", 10, 6, (4, 10), 7, ())), (5, ("jump", 7, ())),
                           (5, ("jump", 6, (3, 10))), (5, ("branch", 10, 7, (), 6, (3, 10))), (5, ("give", 10)), (5, ("fail", 3)),
                           (6, ("jump", 9, (0, 3))), (6, ("jump", 8, (90,))), (6, ("branch", 20, 8, (90,), 9, (0, 3))),
                           (6, ("branch", 20, 8, (21,), 9, (90, 3))), (6, ("branch", 20, 8, (21,), 8, (21,))), (7, ("jump", 8, (0,))),
                           (7, ("jump", 9, (0, 4))), (7, ("jump", 9, (90, 3))), (8, ("give", 0)), (8, ("fail", 3)), (8, ("jump", 9, (22, 22))),
                           (9, ("fail", 4)), (9, ("give", 0)), (7, ("give", 1))):
            with self.subTest(end=end):
                rows = block_of(self.PROGRAM[0], label)[2]
                self.wrong(self.PROGRAM, self.end(label, end), self.PAPER, ("main", label, len(rows)))

    def test_a_block_with_other_params(self):
        after = with_block(self.end(7, ("branch", 1, 8, (0, 0), 9, (90, 4))), 8, params=((22, 0), (25, 0)))
        after = with_block(after, 6, end=("branch", 20, 8, (21, 21), 9, (0, 3)))
        self.wrong(self.PROGRAM, after, self.PAPER, ("main", 8, -1))


if __name__ == "__main__":
    unittest.main()
