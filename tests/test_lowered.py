"""Points 12, 13 and 3: which programs and papers are let by as a tree lowered, and where others are wrong."""

import random
import unittest

from growing import grown, inputs_of
from test_lowering import MAINS, tree_of

from passpapers.errors import NoMiddle
from passpapers.looks import look_at_middle, visible_ahead
from passpapers.lowered import lowered_wrong
from passpapers.lowering import lower
from passpapers.middle import block_of, names_given, ways_of
from passpapers.midrun import middle_run
from passpapers.treerun import tree_run
from passpapers.trees import tree_read

NOWHERE = ("", -1, -1)


def one(main, variables="n number"):
    """A tree of main alone."""
    return tree_read("( program ( fun main ( " + variables + " ) number " + main + " ) )")


def main_of(*blocks, params=((0, 0),)):
    return (("main", params, 0, blocks),)


def with_block(program, label, rows=None, end=None):
    """The program, its last function's block of that label having other rows or another end."""
    name, params, kind, blocks = program[-1]
    blocks = tuple(
        (block[0], block[1], block[2] if rows is None else rows, block[3] if end is None else end)
        if block[0] == label else block for block in blocks)
    return program[:-1] + ((name, params, kind, blocks),)


def renamed(program, paper, seed):
    """Program and paper with other names and labels, and all blocks but the first in another order."""
    chooser = random.Random(seed)
    functions, body = [], []
    for (name, params, kind, blocks), told in zip(program, paper[1]):
        given = [param for param, other in params] + [n for block in blocks for n in names_given(block)]
        names = dict(zip(given, chooser.sample(range(3 * len(given) + 1000000 // 2), len(given))))
        labels = dict(zip([b[0] for b in blocks], chooser.sample(range(200), len(blocks))))

        def args_of(args):
            return tuple(names[arg] for arg in args)

        def end_of(end):
            if end[0] == "jump":
                return ("jump", labels[end[1]], args_of(end[2]))
            if end[0] == "branch":
                return ("branch", names[end[1]], labels[end[2]], args_of(end[3]), labels[end[4]], args_of(end[5]))
            return ("give", names[end[1]]) if end[0] == "give" else end

        def params_of(own):
            return tuple((names[param], other) for param, other in own)

        made = [(labels[label], params_of(own), tuple((names[n], op, tell, args_of(args)) for n, op, tell, args in rows),
                 end_of(end)) for label, own, rows, end in blocks]
        pairs = {labels[label]: tuple((variable, names[n]) for variable, n in entry) for label, entry in told}
        rest = made[1:]
        chooser.shuffle(rest)
        functions.append((name, params_of(params), kind, (made[0],) + tuple(rest)))
        body.append(tuple((block[0], pairs[block[0]]) for block in rest))
    return tuple(functions), ("lowered", tuple(body))


class Checking(unittest.TestCase):
    def let_by(self, tree, program, paper):
        self.assertIsNone(lowered_wrong(tree, program, paper))

    def wrong(self, tree, program, paper, place=None):
        told = lowered_wrong(tree, program, paper)
        self.assertIsNotNone(told)
        self.assertEqual([tuple, str, int, int], [type(told)] + [type(part) for part in told])
        if place is not None:
            self.assertEqual(place, told)


class TestLetBy(Checking):
    def test_other_names_labels_and_orders(self):
        for at, tree in enumerate([tree_of(main) for main in MAINS] + [grown(seed) for seed in range(100)]):
            with self.subTest(at=at):
                program, paper = lower(tree)
                self.let_by(tree, *renamed(program, paper, at))

    def test_all_variables_as_params(self):
        tree = one("( let a 1 ) ( while ( < n 3 ) ( ( put n ( + n a ) ) ) ) ( give a )")
        program = main_of(
            (4, (), ((1, "num", 1, ()),), ("jump", 3, (1, 0))),
            (3, ((2, 0), (3, 0)), ((4, "tick", None, ()), (5, "num", 3, ()), (6, "<", None, (3, 5))),
             ("branch", 6, 1, (2, 3), 2, (2,))),
            (1, ((7, 0), (8, 0)), ((9, "+", None, (8, 7)),), ("jump", 3, (7, 9))),
            (2, ((10, 0),), (), ("give", 10)))
        body = ((3, (("a", 2), ("n", 3))), (1, (("n", 8), ("a", 7))), (2, (("a", 10),)))
        self.let_by(tree, program, ("lowered", (body,)))
        for wrong in (((3, (("a", 3), ("n", 2))),) + body[1:], body[:2] + ((2, ()),), body[:1] + ((1, (("n", 8),)),) + body[2:],
                      body[:2] + ((2, (("a", 7),)),), body[:2] + ((2, (("n", 10),)),), body[:2] + ((2, (("a", 10), ("a", 10))),)):
            self.wrong(tree, program, ("lowered", (wrong,)))
        # A param that stands for no variable may be handed anything.
        free = body[:1] + ((1, (("n", 8), ("a", 7))), (2, (("a", 2),)))
        self.let_by(tree, with_block(with_block(program, 2, end=("give", 2)), 3, end=("branch", 6, 1, (2, 3), 2, (5,))),
                    ("lowered", (free,)))

    def test_params_and_pairs_that_nothing_wants(self):
        tree = one("( if ( < n 3 ) ( ( let b 1 ) ( out b ) ) ( ( give 0 ) ) ) ( if yes ( ) ( ) ) ( give n )")
        program, paper = lower(tree)
        self.let_by(tree, program, paper)
        # The variable b stands still, though it is no longer wanted: it was let in the part that goes on.
        row = block_of(program[0], 1)[2][0]
        self.assertEqual(("num", 1), row[1:3])
        told = tuple((label, pairs + (("b", row[0]),) if label == 3 else pairs) for label, pairs in paper[1][0])
        self.let_by(tree, program, ("lowered", (told,)))
        told = tuple((label, pairs + (("b", row[0]),) if label == 2 else pairs) for label, pairs in paper[1][0])
        self.wrong(tree, program, ("lowered", (told,)))

    def test_two_parts_at_one_block(self):
        tree = one("( if ( < n 3 ) ( ( out n ) ( give 1 ) ) ( ( out n ) ( give 1 ) ) )")
        program = main_of(
            (0, (), ((1, "num", 3, ()), (2, "<", None, (0, 1))), ("branch", 2, 5, (), 5, ())),
            (5, (), ((3, "out", None, (0,)), (4, "num", 1, ())), ("give", 4)))
        self.let_by(tree, program, ("lowered", (((5, (("n", 0),)),),)))
        self.wrong(tree, program, ("lowered", (((5, ()),),)))
        other = one("( if ( < n 3 ) ( ( out n ) ( give 1 ) ) ( ( out n ) ( give 2 ) ) )")
        self.wrong(other, program, ("lowered", (((5, (("n", 0),)),),)))

    def test_blocks_to_which_the_walk_does_not_come(self):
        tree = one("( if ( < n 3 ) ( ( out n ) ) ( ) ) ( give n )")
        program, paper = lower(tree)
        name, params, kind, blocks = program[0]
        dead = ((90, (), ((91, "out", None, (0,)), (92, "num", 5, ())), ("give", 92)), (95, (), (), ("jump", 3, ())))
        told = paper[1][0]
        for pairs in ((), (("n", 0),), (("n", 91),), (("none", 777),), (("n", 0), ("m", 92))):
            both = ((90, pairs), (95, ()))
            self.let_by(tree, ((name, params, kind, blocks + dead),), ("lowered", (told + both,)))
            self.let_by(tree, ((name, params, kind, blocks[:1] + dead + blocks[1:]),), ("lowered", (both + told,)))
        self.wrong(tree, ((name, params, kind, blocks + dead),), ("lowered", (told,)))
        self.wrong(tree, ((name, params, kind, blocks + dead),), ("lowered", (told + both[::-1],)))

    def test_what_is_let_by_runs_alike(self):
        for seed in range(60):
            tree = grown(seed)
            program, paper = renamed(*lower(tree), seed)
            inputs = inputs_of(tree, seed)
            for bound in (0, 2, 30):
                self.assertEqual(tree_run(tree, inputs, bound), middle_run(program, inputs, bound)[:3])


class TestPapers(Checking):
    TREE = tree_of(MAINS[10])

    def test_no_such_paper(self):
        program, paper = lower(self.TREE)
        body = paper[1]
        for wrong in (None, 5, "lowered", (), ("lowered",), ("lowered", body, ()), ["lowered", body], ("facts", body),
                      ("moved", body), (None, body), (5, body), (body, "lowered"), ("lowered", None), ("lowered", 5),
                      ("lowered", ()), ("lowered", body[:-1]), ("lowered", body + ((),)), ("lowered", body[1:] + body[:1]),
                      ("lowered", list(body)), ("Lowered", body), ("lowered", "abcde")):
            with self.subTest(wrong=wrong):
                self.wrong(self.TREE, program, wrong)

    def test_no_such_entries(self):
        program, paper = lower(self.TREE)
        body, told = paper[1][:-1], paper[1][-1]
        (label, pairs), rest = told[0], told[1:]
        self.assertEqual(1, label)
        self.assertTrue(len(rest) > 1 and len(pairs) > 1)
        for wrong in (
                None, 5, (), list(told), rest, told + told[:1], told[::-1], told[1:2] + told[:1] + told[2:],
                ((label,),) + rest, ((label, pairs, ()),) + rest, (None,) + rest, (label,) + rest, ([label, pairs],) + rest,
                ((True, pairs),) + rest, ((None, pairs),) + rest, (("1", pairs),) + rest, ((99, pairs),) + rest,
                ((0, pairs),) + rest, ((label, None),) + rest, ((label, 5),) + rest, ((label, list(pairs)),) + rest,
                ((label, (None,)),) + rest, ((label, (("n",),)),) + rest, ((label, (("n", 0, 0),)),) + rest,
                ((label, pairs + pairs[:1]),) + rest, ((label, pairs + (("none", 0),)),) + rest,
                ((label, pairs + (("b", 0),)),) + rest, ((label, (("n", 777),) + pairs[1:]),) + rest,
                ((label, (("n", None),) + pairs[1:]),) + rest, ((label, (("n", "0"),) + pairs[1:]),) + rest,
                ((label, (("n", False),) + pairs[1:]),) + rest, ((label, ((None, 0),) + pairs[1:]),) + rest,
                ((label, (["n", 0],) + pairs[1:]),) + rest, ((label, (("n", -1),) + pairs[1:]),) + rest,
                ((label, (([], 0),) + pairs[1:]),) + rest, ((label, ((("n",), 0),) + pairs[1:]),) + rest):
            with self.subTest(wrong=wrong):
                self.wrong(self.TREE, program, ("lowered", body + (wrong,)))

    def test_places_of_what_is_no_paper(self):
        program, paper = lower(self.TREE)
        body, told = paper[1][:-1], paper[1][-1]
        self.wrong(self.TREE, program, ("facts", paper[1]), NOWHERE)
        self.wrong(self.TREE, program, ("lowered", body), NOWHERE)
        self.wrong(self.TREE, program, ("lowered", body + (told[1:],)), ("main", -1, -1))
        self.wrong(self.TREE, program, ("lowered", body + (told[:1] + ((2,),) + told[2:],)), ("main", 2, -1))
        self.wrong(self.TREE, program, ("lowered", body + (told[:1] + ((2, None),) + told[2:],)), ("main", 2, -1))

    def test_pairs_that_do_not_hold(self):
        tree = one("( let a 1 ) ( let b 2 ) ( if ( < n 3 ) ( ( put a 5 ) ) ( ) ) ( while ( < a b ) ( ( put b n ) ) ) ( give a )")
        program, paper = lower(tree)
        told = paper[1][0]
        names = [name for block in program[0][3] for name in names_given(block)]
        for at, (label, pairs) in enumerate(told):
            for place, (variable, name) in enumerate(pairs):
                for other in names + [0]:
                    if other != name:
                        changed = pairs[:place] + ((variable, other),) + pairs[place + 1:]
                        self.wrong(tree, program, ("lowered", (told[:at] + ((label, changed),) + told[at + 1:],)))

    def test_pairs_that_are_wanted(self):
        tree = one("( let a 1 ) ( if ( < n 3 ) ( ( out a ) ) ( ) ) ( give a )")
        program, paper = lower(tree)
        told = paper[1][0]
        for at, wanted in enumerate((True, True, True)):
            less = tuple((label, tuple(pair for pair in pairs if pair[0] != "a") if place == at else pairs)
                         for place, (label, pairs) in enumerate(told))
            self.wrong(tree, program, ("lowered", (less,)))
        less = tuple((label, tuple(pair for pair in pairs if pair[0] != "n")) for label, pairs in told)
        self.let_by(tree, program, ("lowered", (less,)))


class TestHeads(Checking):
    def test_functions_that_are_not_the_tree_s(self):
        tree = tree_of("( give 0 )")
        program, (word, body) = lower(tree)
        self.wrong(tree, program[1:], (word, body[1:]))
        self.wrong(tree, program[1:], (word, body))
        self.wrong(tree, program + (("more", (), 0, ((0, (), (), ("fail", 1)),)),), (word, body + ((),)))
        self.wrong(tree, program[1:2] + program[:1] + program[2:], (word, body[1:2] + body[:1] + body[2:]))
        self.wrong(tree, (("sai",) + program[0][1:],) + program[1:], (word, body), ("sai", -1, -1))

    def test_kinds_that_are_not_the_tree_s(self):
        pairs = (("number", 0), ("truth", 0), ("list", -1), ("one", 1), ("two", 2), ("four", 4))
        for kind, number in pairs:
            tree = tree_read(
                "( program ( record one x ) ( record two x y ) ( record four x y z w ) "
                f"( fun f ( a {kind} ) {kind} ( give a ) ) ( fun main ( ) number ( give 0 ) ) )")
            rest = (("main", (), 0, ((0, (), ((1, "num", 0, ()),), ("give", 1)),)),)
            for other in (-1, 0, 1, 2, 3, 4):
                program = (("f", ((3, other),), other, ((0, (), (), ("give", 3)),)),) + rest
                if other == number:
                    self.let_by(tree, program, ("lowered", ((), ())))
                else:
                    self.wrong(tree, program, ("lowered", ((), ())), ("f", -1, -1))
        more = (("f", ((3, 4), (4, 4)), 4, ((0, (), (), ("give", 3)),)),) + rest
        self.wrong(tree, more, ("lowered", ((), ())), ("f", -1, -1))
        fewer = (("f", (), 4, ((0, (), ((3, "new", 4, ()),), ("give", 3)),)),) + rest
        self.wrong(tree, fewer, ("lowered", ((), ())), ("f", -1, -1))

    def test_a_program_that_is_not_right(self):
        tree = one("( out n ) ( give n )")
        program, paper = lower(tree)
        for rows in (((1, "outs", None, (0,)),), ((1, "out", None, (7,)),), ((0, "out", None, (0,)),), ((1, "num", "a", ()),)):
            self.wrong(tree, with_block(program, 0, rows=rows), paper, ("main", 0, 0))
        self.wrong(tree, with_block(program, 0, end=("give", 9)), paper, ("main", 0, 1))
        self.wrong(tree, with_block(program, 0, end=("jump", 9, ())), paper, ("main", 0, 1))
        for broken in ((), None, 5, (("f",) + program[0][1:],)):
            self.wrong(tree, broken, paper, NOWHERE)


class TestRows(Checking):
    def test_each_statement_and_e_wants_its_rows(self):
        """Behind each row of what lower tells: the row told otherwise is wrong, and it alone."""
        for main in MAINS:
            tree = tree_of(main)
            program, paper = lower(tree)
            for label, params, rows, end in program[-1][3]:
                for index, row in enumerate(rows):
                    for other in self.others(program, label, index, row):
                        changed = with_block(program, label, rows=rows[:index] + (other,) + rows[index + 1:])
                        if other != row and self.is_right(changed):
                            with self.subTest(main=main, row=row, other=other):
                                self.wrong(tree, changed, paper, ("main", label, index))

    def others(self, program, label, index, row):
        name, op, told, args = row
        if op in ("num", "new", "get", "set"):
            yield (name, op, told + 1, args)
            yield (name, op, told - 1, args)
        if len(args) == 2:
            for other in ("+", "-", "*", "/", "rest", "<", "=", "and", "or"):
                if other != op:
                    yield (name, other, None, args)
        for place in range(len(args)):
            for other in visible_ahead(program[-1], label, index):
                if other != args[place]:
                    yield (name, op, told, args[:place] + (other,) + args[place + 1:])
        for other in visible_ahead(program[-1], label, index)[:2]:
            yield (name, "copy", None, (other,))
            yield (name, "call", "say", (other,))
        yield (name, "num", 4321, ())
        yield (name, "tick", None, ())

    def is_right(self, program):
        try:
            look_at_middle(program)
        except NoMiddle:
            return False
        return True

    def test_rows_too_many(self):
        for main in MAINS:
            tree = tree_of(main)
            program, paper = lower(tree)
            for label, params, rows, end in program[-1][3]:
                for index in range(len(rows) + 1):
                    for more in ((900, "num", 4321, ()), (900, "num", 0, ()), (900, "num", 1, ()), (900, "tick", None, ())):
                        # Where a row of the same stands there that nothing uses, either may be the one too many.
                        if more[1:] not in [row[1:] for row in rows]:
                            changed = with_block(program, label, rows=rows[:index] + (more,) + rows[index:])
                            self.wrong(tree, changed, paper, ("main", label, index))

    def test_a_row_too_many_ahead_of_one_like_it(self):
        tree = one("( out 5 ) ( give n )")
        rows = ((9, "num", 5, ()), (1, "num", 5, ()), (2, "out", None, (1,)))
        program = main_of((0, (), rows, ("give", 0)))
        self.wrong(tree, program, ("lowered", ((),)), ("main", 0, 0))
        rows = ((1, "num", 5, ()), (9, "num", 5, ()), (2, "out", None, (1,)))
        self.wrong(tree, main_of((0, (), rows, ("give", 0))), ("lowered", ((),)), ("main", 0, 1))

    def test_a_row_too_many_far_ahead_of_where_the_walk_goes_amiss(self):
        tree = one("( out ( + 5 5 ) ) ( give n )")
        rows = ((9, "num", 5, ()), (1, "num", 5, ()), (2, "num", 5, ()), (3, "+", None, (1, 2)), (4, "out", None, (3,)))
        self.wrong(tree, main_of((0, (), rows, ("give", 0))), ("lowered", ((),)), ("main", 0, 0))

    def test_more_than_one_row_wrong(self):
        """One of them is told, not an end that is right."""
        tree = one("( out 5 ) ( if ( < n 3 ) ( ( out 7 ) ) ( ( out 8 ) ) ) ( out 6 ) ( give n )")
        program, paper = lower(tree)
        wrong = []
        for label in (1, 3):
            rows = block_of(program[0], label)[2]
            program = with_block(program, label, rows=(rows[0][:2] + (77, ()),) + rows[1:])
            wrong.append(("main", label, 0))
        self.assertIn(lowered_wrong(tree, program, paper), wrong)

    def test_rows_too_few(self):
        for main in MAINS:
            tree = tree_of(main)
            program, paper = lower(tree)
            for label, params, rows, end in program[-1][3]:
                for index in range(len(rows)):
                    self.wrong(tree, with_block(program, label, rows=rows[:index] + rows[index + 1:]), paper)

    def test_rows_in_another_order(self):
        tree = one("( out ( - n 1 ) ) ( out 2 ) ( give n )")
        program, paper = lower(tree)
        rows = block_of(program[0], 0)[2]
        self.wrong(tree, with_block(program, 0, rows=(rows[0], rows[1], rows[3], rows[2], rows[4])), paper)
        self.wrong(tree, with_block(program, 0, rows=rows[3:] + rows[:3]), paper)


class TestEnds(Checking):
    TREE = one("( let a 1 ) ( if ( < n 3 ) ( ( out 1 ) ( put a 2 ) ) ( ( out 2 ) ) ) "
               "( while ( < a n ) ( ( if ( = a 4 ) ( ( give 5 ) ) ( ( out 3 ) ) ) ( put a ( + a n ) ) ) ) "
               "( if ( < a 9 ) ( ( fail 6 ) ) ( ( give a ) ) )")

    def ends(self, kind):
        program, paper = lower(self.TREE)
        return [(block[0], len(block[2]), block[3]) for block in program[0][3] if block[3][0] == kind]

    def check(self, label, index, end, right=None):
        program, paper = lower(self.TREE)
        changed = with_block(program, label, end=end)
        if right is None or right == end:
            look_at_middle(changed)
        self.wrong(self.TREE, changed, paper, ("main", label, index))

    def test_branches_the_other_way_round(self):
        ends = self.ends("branch")
        self.assertEqual(4, len(ends))
        for label, index, (word, name, first, args, second, others) in ends:
            self.check(label, index, (word, name, second, others, first, args))

    def test_branches_to_one_block(self):
        for label, index, (word, name, first, args, second, others) in self.ends("branch"):
            self.check(label, index, (word, name, first, args, first, args))
            self.check(label, index, (word, name, second, others, second, others))
            self.check(label, index, ("jump", first, args))

    def test_branches_by_another_name(self):
        for label, index, end in self.ends("branch"):
            self.check(label, index, (end[0], 0) + end[2:])

    def test_jumps_elsewhere(self):
        program, paper = lower(self.TREE)
        for label, index, (word, led, args) in self.ends("jump"):
            for block in program[0][3][1:]:
                if block[0] not in (led, label):
                    end = ("jump", block[0], (0,) * len(block[1]))
                    changed = with_block(program, label, end=end)
                    try:
                        look_at_middle(changed)
                    except NoMiddle as refused:
                        self.wrong(self.TREE, changed, paper, refused.place)
                    else:
                        self.wrong(self.TREE, changed, paper, ("main", label, index))

    def test_jumps_with_other_arguments(self):
        for label, index, (word, led, args) in self.ends("jump"):
            if args:
                self.check(label, index, (word, led, (0,) * len(args)))

    def test_jumps_that_are_others(self):
        for label, index, end in self.ends("jump"):
            self.check(label, index, ("fail", 6))
            self.check(label, index, ("give", 0))

    def test_gives_and_fails(self):
        for label, index, end in self.ends("give"):
            self.check(label, index, ("give", 0))
            self.check(label, index, ("fail", 6))
        for label, index, end in self.ends("fail"):
            self.check(label, index, ("fail", 5))
            self.check(label, index, ("give", 0))

    def test_parts_that_do_not_come_together(self):
        tree = one("( if ( < n 3 ) ( ( out 1 ) ) ( ( out 2 ) ) ) ( give n )")
        rows = ((1, "num", 3, ()), (2, "<", None, (0, 1)))
        program = main_of(
            (0, (), rows, ("branch", 2, 1, (), 2, ())),
            (1, (), ((3, "num", 1, ()), (4, "out", None, (3,))), ("jump", 3, ())),
            (2, (), ((5, "num", 2, ()), (6, "out", None, (5,))), ("jump", 4, ())),
            (3, (), (), ("give", 0)), (4, (), (), ("give", 0)))
        told = tuple((label, (("n", 0),)) for label in (1, 2, 3, 4))
        self.wrong(tree, program, ("lowered", (told,)))
        together = with_block(program, 2, end=("jump", 3, ()))
        self.let_by(tree, together, ("lowered", (told,)))

    def test_a_part_that_does_not_jump_back(self):
        tree = one("( while ( < n 3 ) ( ( out n ) ) ) ( give n )")
        program, paper = lower(tree)
        self.wrong(tree, with_block(program, 2, end=("jump", 3, ())), paper, ("main", 2, 1))
        self.wrong(tree, with_block(program, 2, end=("give", 0)), paper, ("main", 2, 1))

    def test_ends_far_ahead_of_where_the_walk_goes_amiss(self):
        inner = "( if ( < n 2 ) ( ( out 1 ) ) ( ( out 2 ) ) ) ( while ( < n 1 ) ( ( put n 3 ) ) )"
        tree = one(f"( if ( < n 5 ) ( {inner} ( out 3 ) ) ( {inner} ( out 4 ) ) ) ( give n )")
        program, paper = lower(tree)
        label, params, rows, end = program[0][3][0]
        self.let_by(tree, program, paper)
        self.wrong(tree, with_block(program, 0, end=end[:2] + end[4:] + end[2:4]), paper, ("main", 0, len(rows)))

    def test_a_round_that_begins_at_another_round_s_head(self):
        tree = one("( while ( < n 2 ) ( ( put n 3 ) ) ) ( while ( < n 2 ) ( ( put n 4 ) ) ) ( give n )")
        program, paper = lower(tree)
        first, second = [end[1] for label, params, rows, end in program[0][3] if end[0] == "jump" and label in (0, 3)]
        self.wrong(tree, with_block(program, 0, end=("jump", second, (0,))), paper, ("main", 0, 0))

    def test_a_block_can_not_be_mended_in_two_ways(self):
        """Its end is right for the one part, and so is not what is wrong where another part is led there."""
        tree = one("( if ( < n 3 ) ( ) ( ) ) ( if ( < n 2 ) ( ) ( ) ) ( give n )")
        program, paper = lower(tree)
        label, params, rows, end = program[0][3][0]
        later = block_of(program[0], 3)[3]
        self.assertEqual("branch", later[0])
        self.wrong(tree, with_block(program, 0, end=end[:4] + later[4:]), paper, ("main", 0, len(rows)))
        tree = one("( if ( < n 3 ) ( ( out n ) ) ( ( give 1 ) ) ) ( if ( < n 2 ) ( ( out n ) ) ( ( give 2 ) ) ) ( give n )")
        program, paper = lower(tree)
        branches = [(block[0], len(block[2]), block[3]) for block in program[0][3] if block[3][0] == "branch"]
        (label, index, end), (other, place, later) = branches
        self.wrong(tree, with_block(program, label, end=end[:4] + later[4:]), paper, ("main", label, index))


class TestOtherTrees(Checking):
    def test_another_tree_s_program_is_not_let_by(self):
        lowered = [lower(tree_of(main)) for main in MAINS]
        for at, main in enumerate(MAINS):
            for other, (program, paper) in enumerate(lowered):
                if at != other:
                    told = lowered_wrong(tree_of(main), program, paper)
                    self.assertIsNotNone(told, (main, MAINS[other]))

    def test_what_differs_in_the_tree_alone(self):
        tree = one("( let a 1 ) ( let b 2 ) ( if ( < a b ) ( ( put a b ) ) ( ( put b a ) ) ) ( give ( - a b ) )")
        program, paper = lower(tree)
        for main in (
                "( let a 1 ) ( let b 2 ) ( if ( < b a ) ( ( put a b ) ) ( ( put b a ) ) ) ( give ( - a b ) )",
                "( let a 1 ) ( let b 2 ) ( if ( < a b ) ( ( put b a ) ) ( ( put a b ) ) ) ( give ( - a b ) )",
                "( let a 1 ) ( let b 2 ) ( if ( < a b ) ( ( put a b ) ) ( ( put b a ) ) ) ( give ( - b a ) )",
                "( let b 1 ) ( let a 2 ) ( if ( < a b ) ( ( put a b ) ) ( ( put b a ) ) ) ( give ( - a b ) )",
                "( let a 1 ) ( let b 2 ) ( if ( < a b ) ( ( put a b ) ) ( ) ) ( give ( - a b ) )",
                "( let a 1 ) ( let b 2 ) ( if ( < a b ) ( ( put a b ) ) ( ( put b a ) ) ) ( give a )"):
            self.wrong(one(main), program, paper)
        self.let_by(tree, program, paper)

    def test_changed_programs_that_are_let_by_run_alike(self):
        """Ends led elsewhere at random: what the checker lets by runs as the tree all the same."""
        chooser = random.Random(5)
        for seed in range(80):
            tree = grown(seed)
            program, paper = lower(tree)
            for label, params, rows, end in program[-1][3]:
                ways = ways_of(end)
                if len(ways) == 2:
                    first, second = chooser.choice(ways), chooser.choice(ways)
                    changed = with_block(program, label, end=end[:2] + first + second)
                    if lowered_wrong(tree, changed, paper) is None:
                        inputs = inputs_of(tree, seed)
                        self.assertEqual(tree_run(tree, inputs, 20), middle_run(changed, inputs, 20)[:3])


class TestGeneral(Checking):
    def test_what_is_handed_in_stays_and_the_same_is_told_again(self):
        tree = tree_of(MAINS[10])
        program, paper = lower(tree)
        broken = with_block(program, 0, end=("fail", 1))
        for k in range(2):
            self.let_by(tree, program, paper)
            self.wrong(tree, broken, paper)
            self.wrong(tree, program, ("lowered", ()), NOWHERE)
        self.assertEqual((program, paper), lower(tree_of(MAINS[10])))
        self.assertEqual(tree_of(MAINS[10]), tree)


if __name__ == "__main__":
    unittest.main()
