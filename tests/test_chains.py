"""Points 2, 3, 33 and 34: trees driven through passes, and the chains that these make."""

import random
import unittest

from growing import grown, inputs_of
from machspoiling import spoiled_machines
from oracle import told as told_plainly
from spoiling import changed, spoiled
from test_delays import random_delays
from test_lowering import MAINS, tree_of
from test_passes import is_tuples_all_through

from passpapers.chains import chain_wrong
from passpapers.dealing import deal
from passpapers.dealt import dealt_wrong
from passpapers.driver import driven
from passpapers.dropped import dropped_wrong
from passpapers.dropping import drop
from passpapers.errors import NoPass, PassError
from passpapers.facts import facts_wrong
from passpapers.joining import join_blocks
from passpapers.keeping import keep
from passpapers.kept import kept_wrong
from passpapers.knowing import know
from passpapers.lowered import lowered_wrong
from passpapers.lowering import lower
from passpapers.machrun import machine_run
from passpapers.midrun import middle_run
from passpapers.moved import moved_wrong
from passpapers.moving import move_out
from passpapers.ordered import ordered_wrong
from passpapers.ordering import order_rows
from passpapers.placed import placed_wrong
from passpapers.placing import place_first
from passpapers.threading import thread
from passpapers.treerun import tree_run
from passpapers.trees import tree_read, tree_shown
from passpapers.turning import turn_rounds
from passpapers.unrolling import unroll
from passpapers.ways import ways_wrong

WORDS = ("know", "drop", "move", "join", "thread", "turn", "unroll", "place", "keep")
KINDS = {"know": "facts", "drop": "dropped", "move": "moved", "join": "ways", "thread": "ways", "turn": "ways", "unroll": "ways", "place": "placed", "keep": "kept", "deal": "dealt", "order": "ordered"}
CHECKERS = {"lowered": lowered_wrong, "facts": facts_wrong, "dropped": dropped_wrong, "moved": moved_wrong, "ways": ways_wrong, "placed": placed_wrong, "kept": kept_wrong, "dealt": dealt_wrong,
            "ordered": ordered_wrong}
DELAYS = {"load": 4, "+": 2, "*": 6}
TREE = tree_read(
    "( program ( record point x y ) ( fun twice ( n number ) number ( out n ) ( give ( + n n ) ) ) ( fun main ( n number ) number ( let p ( new point ) ) ( set p x n ) "
    "( while ( < 0 ( get p x ) ) ( ( set p y ( + ( get p y ) ( call twice ( get p x ) ) ) ) ( set p x ( - ( get p x ) 1 ) ) ) ) ( give ( get p y ) ) ) )")
ORDER = ["place", "know", "drop", "keep", "know", "drop", "join", "move", "turn", "thread", "unroll", "know", "drop", "join", "deal", "order", "order"]


def order_of(chooser):
    words = [chooser.choice(WORDS) for k in range(chooser.randint(0, 9))]
    return words + chooser.choice(([], ["deal"], ["deal", "order"], ["deal", "order", "order"]))


class Chains(unittest.TestCase):
    def run_alike(self, tree, steps, seed, bounds=(0, 1, 2, 3, 6, 30)):
        for bound in bounds:
            inputs = inputs_of(tree, seed + bound)
            wanted = tree_run(tree, inputs, bound)
            for outcome, paper in steps:
                run = machine_run(outcome, inputs, bound) if paper[0] in ("dealt", "ordered") else middle_run(outcome, inputs, bound)
                self.assertEqual(wanted, run[:3], (seed, bound, paper[0]))


class TestDriven(Chains):
    def test_each_word(self):
        program, paper = lower(TREE)
        passes = {"know": know, "drop": drop, "move": move_out, "join": join_blocks, "thread": thread, "turn": turn_rounds, "unroll": lambda before: unroll(before, 2), "place": place_first, "keep": keep,
                  "deal": lambda before: deal(before, 5)}
        self.assertEqual([(program, paper)], driven(TREE, [], 5, {}))
        for word, action in passes.items():
            self.assertEqual([(program, paper), action(program)], driven(TREE, [word], 5, DELAYS))
            first = action(program)
            if word != "deal":
                for other, behind in passes.items():
                    self.assertEqual([(program, paper), first, behind(first[0])], driven(TREE, [word, other], 5, DELAYS))
        machine = deal(program, 5)
        ordered = order_rows(machine[0], DELAYS)
        self.assertEqual([(program, paper), machine, ordered, order_rows(ordered[0], DELAYS)], driven(TREE, ["deal", "order", "order"], 5, DELAYS))
        self.assertNotEqual(ordered, order_rows(machine[0], {}))

    def test_by_two(self):
        steps = driven(TREE, ["unroll"], 3, {})
        heads = [path[0] for label, path, pairs in steps[1][1][1][1]]
        self.assertEqual(2, max(heads.count(label) for label in heads))

    def test_registers(self):
        for registers in (3, 4, 5, 6, 7, 8):
            steps = driven(TREE, ["deal"], registers, {})
            self.assertEqual(registers, steps[1][0][0])

    def test_form(self):
        steps = driven(TREE, ORDER, 4, DELAYS)
        self.assertIs(list, type(steps))
        self.assertEqual(["lowered"] + [KINDS[word] for word in ORDER], [paper[0] for outcome, paper in steps])
        self.assertTrue(all(type(step) is tuple and is_tuples_all_through(step) for step in steps))
        self.assertIsNone(chain_wrong(TREE, steps))
        self.run_alike(TREE, steps, 0)

    def test_other_orders(self):
        for order in (["deal", "deal"], ["order"], ["order", "deal"], ["know", "order", "deal"], ["deal", "know"], ["deal", "order", "drop"], ["deal", "order", "deal"], ["other"], [""], ["know", "Know"], ["deal", "other"],
                      ["lower"], ["lowered"], ["facts"], ["deal", "order", "other"], ["more", "deal"], ["unroll", "order"], ["deal", "keep"], ["deal", "place", "order"], ["deal", "move"], ["know", "order"]):
            with self.subTest(order=order):
                with self.assertRaises(NoPass) as caught:
                    driven(TREE, order, 4, {})
                self.assertIsInstance(caught.exception, PassError)

    def test_what_is_handed_in_stays_and_the_same_is_told_again(self):
        order, delays = list(ORDER), dict(DELAYS)
        first = driven(TREE, order, 4, delays)
        copy = list(first)
        first.clear()
        driven(tree_of(MAINS[3]), ["know"], 3, {})
        self.assertEqual(copy, driven(TREE, order, 4, delays))
        self.assertEqual((ORDER, DELAYS), (order, delays))
        order.append("order")
        delays["load"] = 9
        self.assertEqual(copy, driven(TREE, ORDER, 4, DELAYS))


class TestChainWrong(Chains):
    def wrong(self, steps, expected=None, tree=TREE):
        told = chain_wrong(tree, steps)
        self.assertIsNotNone(told)
        self.assertEqual([tuple, int, tuple], [type(told)] + [type(part) for part in told])
        self.assertEqual([str, int, int], [type(part) for part in told[1]])
        if expected is not None:
            self.assertEqual(expected, told)

    def setUp(self):
        self.steps = driven(TREE, ORDER, 4, DELAYS)

    def test_each_beginning(self):
        for many in range(1, len(self.steps) + 1):
            self.assertIsNone(chain_wrong(TREE, self.steps[:many]))
        self.assertIsNone(chain_wrong(TREE, tuple(self.steps)))

    def test_no_steps(self):
        self.wrong([], (0, ("", -1, -1)))

    def test_steps_left_out_or_taken_twice(self):
        nowhere = ("", -1, -1)
        self.wrong(self.steps[1:], (0, nowhere))
        self.wrong(self.steps[:1] + self.steps, (1, nowhere))
        self.wrong(self.steps + self.steps[:1], (len(self.steps), nowhere))
        self.wrong(self.steps[:3] + self.steps[:1] + self.steps[3:], (3, nowhere))
        dealt = ORDER.index("deal") + 1
        self.wrong(self.steps[:dealt] + self.steps[dealt + 1:], (dealt, nowhere))
        self.wrong(self.steps[:dealt + 1] + self.steps[dealt:], (dealt + 1, nowhere))
        for step in self.steps[1:dealt]:
            self.wrong(self.steps[:dealt + 1] + [step], (dealt + 1, nowhere))
            self.wrong(self.steps + [step], (len(self.steps), nowhere))
        for many in range(1, dealt):
            self.wrong(self.steps[:many] + [self.steps[dealt + 1]], (many, nowhere))
        self.wrong(self.steps[dealt:], (0, nowhere))
        self.wrong(self.steps[dealt + 1:], (0, nowhere))

    def test_another_tree(self):
        other = tree_read(tree_shown(TREE).replace("( give ( + n n ) )", "( give ( + n 1 ) )"))
        told = chain_wrong(other, self.steps)
        self.assertEqual((0, lowered_wrong(other, *self.steps[0])), told)
        self.assertIsNotNone(told)

    def test_papers_of_no_kind(self):
        for number, (outcome, paper) in enumerate(self.steps):
            for other in (("other", paper[1]), (), (paper[0],), paper + ((),), None, 5, "", list(paper), (None, paper[1]), (5, paper[1]), ([], paper[1]), (paper[1], paper[0]), ((paper[0],), paper[1]), ("", paper[1]),
                          ("Lowered", paper[1]), ("tree", paper[1])):
                with self.subTest(number=number, other=other):
                    self.wrong(self.steps[:number] + [(outcome, other)] + self.steps[number + 1:], (number, ("", -1, -1)))
            for kind in CHECKERS:
                if kind != paper[0]:
                    steps = self.steps[:number] + [(outcome, (kind, paper[1]))] + self.steps[number + 1:]
                    self.assertEqual(number, chain_wrong(TREE, steps)[0])

    def test_one_row_or_one_end_wrong_in_one_step(self):
        chooser = random.Random(3)
        wrong = 0
        for number, (outcome, paper) in enumerate(self.steps):
            before = TREE if number == 0 else self.steps[number - 1][0]
            others = spoiled_machines(chooser, outcome) if paper[0] in ("dealt", "ordered") else spoiled(chooser, outcome)
            for other, place in others:
                told = CHECKERS[paper[0]](before, other, paper)
                if told is not None:
                    wrong += 1
                    self.wrong(self.steps[:number] + [(other, paper)] + self.steps[number + 1:], (number, told))
        self.assertGreater(wrong, 100)

    def test_one_thing_wrong_in_one_paper(self):
        chooser = random.Random(4)
        wrong = 0
        for number, (outcome, paper) in enumerate(self.steps):
            before = TREE if number == 0 else self.steps[number - 1][0]
            for k in range(30):
                other = changed(chooser, paper)
                told = CHECKERS[paper[0]](before, outcome, other)
                steps = self.steps[:number] + [(outcome, other)] + self.steps[number + 1:]
                if told is None:
                    self.assertIsNone(chain_wrong(TREE, steps))
                else:
                    wrong += 1
                    self.wrong(steps, (number, told if type(other) is tuple and len(other) == 2 and other[0] == paper[0] else ("", -1, -1)))
        self.assertGreater(wrong, 100)

    def test_outcomes_that_the_look_refuses(self):
        for number, (outcome, paper) in enumerate(self.steps):
            for other in (None, (), outcome[1:], 5):
                self.assertEqual(number, chain_wrong(TREE, self.steps[:number] + [(other, paper)])[0])

    def test_the_first_of_several(self):
        broken = [(outcome, paper + ((),)) if number in (2, 5) else (outcome, paper) for number, (outcome, paper) in enumerate(self.steps)]
        self.wrong(broken, (2, ("", -1, -1)))

    def test_what_is_handed_in_stays(self):
        copy = list(self.steps)
        chain_wrong(TREE, self.steps)
        self.assertEqual(copy, self.steps)


class TestTheWhole(Chains):
    def test_drawn_trees(self):
        for seed in range(200):
            chooser = random.Random(seed)
            tree = tree_read(tree_shown(grown(seed)))
            order = order_of(chooser)
            with self.subTest(seed=seed, order=order):
                steps = driven(tree, order, chooser.randint(3, 8), random_delays(chooser))
                self.assertIsNone(chain_wrong(tree, steps))
                self.run_alike(tree, steps, seed)
                for bound in (0, 2, 9):
                    inputs = inputs_of(tree, seed + bound)
                    self.assertEqual(told_plainly(tree, inputs, bound), tree_run(tree, inputs, bound))

    def test_told_trees(self):
        for at, main in enumerate(MAINS):
            tree = tree_of(main)
            with self.subTest(main=main):
                steps = driven(tree, ORDER, 3 + at % 6, DELAYS)
                self.assertIsNone(chain_wrong(tree, steps))
                self.run_alike(tree, steps, at, (0, 1, 5, 60))

    def test_deep_calls(self):
        tree = tree_read("( program ( fun down ( n number ) number ( if ( < n 1 ) ( ( give 0 ) ) ( ) ) ( give ( + 1 ( call down ( - n 1 ) ) ) ) ) ( fun main ( n number ) number ( give ( call down n ) ) ) )")
        steps = driven(tree, ["know", "drop", "place", "join", "deal", "order"], 3, DELAYS)
        self.assertIsNone(chain_wrong(tree, steps))
        for inputs, bound in (([4990], 5000), ([5000], 5000), ([-5], 5000), ([3], 4), ([3], 3)):
            for outcome, paper in steps:
                run = machine_run if paper[0] in ("dealt", "ordered") else middle_run
                self.assertEqual(tree_run(tree, inputs, bound), run(outcome, inputs, bound)[:3])

    def test_many_passes(self):
        # However often, in any order.
        for seed in range(6):
            chooser = random.Random(seed)
            tree = TREE if seed == 0 else grown(seed + 20)
            order = [chooser.choice(WORDS) for k in range(40)] + ["deal", "order"]
            steps = driven(tree, order, 3 + seed, DELAYS)
            with self.subTest(seed=seed):
                self.assertIsNone(chain_wrong(tree, steps))
                self.run_alike(tree, steps[-3:], seed)


if __name__ == "__main__":
    unittest.main()
