"""Points 2, 3, 12 and 25 for all passes: one behind another, and each with one row or one end that is wrong."""

import random
import unittest

from drawing import drawn, inputs_for
from growing import grown
from spoiling import changed, spoiled
from test_lowering import MAINS, tree_of

from passpapers.dropped import dropped_wrong
from passpapers.dropping import drop
from passpapers.facts import facts_wrong
from passpapers.joining import join_blocks
from passpapers.keeping import keep
from passpapers.kept import kept_wrong
from passpapers.knowing import know
from passpapers.lowering import lower
from passpapers.midrun import middle_run
from passpapers.moved import moved_wrong
from passpapers.moving import move_out
from passpapers.placed import placed_wrong
from passpapers.placing import place_first
from passpapers.threading import thread
from passpapers.turning import turn_rounds
from passpapers.unrolling import unroll
from passpapers.ways import ways_wrong

PASSES = {
    "know": (know, facts_wrong), "drop": (drop, dropped_wrong), "move": (move_out, moved_wrong),
    "join": (join_blocks, ways_wrong), "thread": (thread, ways_wrong), "turn": (turn_rounds, ways_wrong),
    "unroll": (lambda program: unroll(program, 2), ways_wrong), "more": (lambda program: unroll(program, 3), ways_wrong),
    "place": (place_first, placed_wrong), "keep": (keep, kept_wrong),
}


def program_of(seed):
    """Every third one comes from a tree."""
    return drawn(seed, 11 if seed % 2 else 6) if seed % 3 else lower(grown(seed))[0]


def runs_of(program, seed):
    asked = [(inputs_for(program, seed + k), bound) for k in range(2) for bound in (0, 1, 2, 5, 40)]
    return [middle_run(program, inputs, bound) for inputs, bound in asked]


def is_tuples_all_through(thing):
    return all(is_tuples_all_through(part) for part in thing) if type(thing) is tuple else type(thing) in (int, str, type(None))


class TestPasses(unittest.TestCase):
    def step(self, word, program, seed):
        """The outcome of that pass, which is let by, runs alike, and has the same heads."""
        action, checker = PASSES[word]
        outcome, paper = action(program)
        self.assertIsNone(checker(program, outcome, paper))
        self.assertTrue(is_tuples_all_through((outcome, paper)))
        heads = [function[:3] for function in outcome]
        self.assertEqual([function[:3] for function in program if word != "drop" or function[:3] in heads], heads)
        before, after = runs_of(program, seed), runs_of(outcome, seed)
        self.assertEqual([run[:3] for run in before], [run[:3] for run in after])
        if word not in ("move", "place"):
            self.assertTrue(all(new[3] <= old[3] for old, new in zip(before, after)))
        return outcome

    def test_in_any_order_however_often(self):
        for seed in range(250):
            chooser = random.Random(seed)
            words = [chooser.choice(list(PASSES)) for k in range(7)]
            with self.subTest(seed=seed, words=words):
                program = program_of(seed)
                for word in words:
                    program = self.step(word, program, seed)

    def test_each_pair_of_passes(self):
        programs = [lower(tree_of(main))[0] for main in MAINS[::4]] + [drawn(seed) for seed in range(900, 906)]
        for first in PASSES:
            for second in PASSES:
                for at, program in enumerate(programs):
                    with self.subTest(first=first, second=second, at=at):
                        self.step(second, self.step(first, program, at), at)

    def test_one_row_or_one_end_alone_is_wrong(self):
        let_by = 0
        for seed in range(40):
            chooser = random.Random(seed)
            program = program_of(seed)
            runs = [run[:3] for run in runs_of(program, seed)]
            for word, (action, checker) in PASSES.items():
                outcome, paper = action(program)
                for other, place in spoiled(chooser, outcome):
                    told = checker(program, other, paper)
                    if told is None:
                        # The paper lets by that one, too, and it runs alike.
                        let_by += 1
                        self.assertEqual(runs, [run[:3] for run in runs_of(other, seed)], (seed, word, place))
                    else:
                        self.assertEqual(place, told, (seed, word))
        self.assertGreater(let_by, 0)

    def test_papers_that_tell_something_else(self):
        # Whatever else a paper tells: if it is let by, both sides run alike.
        let_by = 0
        for seed in range(120):
            chooser = random.Random(seed)
            program = program_of(seed)
            for word, (action, checker) in PASSES.items():
                outcome, paper = action(program)
                for k in range(6):
                    other = changed(chooser, paper)
                    after = chooser.choice((outcome, outcome, program))
                    told = checker(program, after, other)
                    if told is None:
                        let_by += 1
                        self.assertEqual([run[:3] for run in runs_of(program, seed)], [run[:3] for run in runs_of(after, seed)], (seed, word, other))
                    else:
                        self.assertEqual([tuple, str, int, int], [type(told)] + [type(part) for part in told])
        self.assertGreater(let_by, 0)

    def test_other_passes_papers(self):
        for seed in range(12):
            program = program_of(seed)
            papers = {word: action(program)[1] for word, (action, checker) in PASSES.items()}
            for word, (action, checker) in PASSES.items():
                for other, paper in papers.items():
                    if paper[0] != papers[word][0]:
                        self.assertIsNotNone(checker(program, program, paper))


if __name__ == "__main__":
    unittest.main()
