"""Whether steps make one chain, from a tree to its program, and on to a machine."""

from passpapers.dealt import dealt_wrong
from passpapers.dropped import dropped_wrong
from passpapers.facts import facts_wrong
from passpapers.forms import is_tuple_of
from passpapers.kept import kept_wrong
from passpapers.lowered import lowered_wrong
from passpapers.moved import moved_wrong
from passpapers.ordered import ordered_wrong
from passpapers.papers import NOWHERE
from passpapers.placed import placed_wrong
from passpapers.ways import ways_wrong


def checkers_by_kind(stage):
    """The checkers of the papers that may tell of a tree, of a program, or of a machine."""
    if stage == "tree":
        return {"lowered": lowered_wrong}
    if stage == "machine":
        return {"ordered": ordered_wrong}
    return {
        "facts": facts_wrong, "dropped": dropped_wrong, "moved": moved_wrong, "ways": ways_wrong,
        "placed": placed_wrong, "kept": kept_wrong, "dealt": dealt_wrong,
    }


def chain_wrong(tree, steps):
    """None, or (number, place): the step that isn't let by, and its checker's place."""
    if len(steps) == 0:
        return (0, NOWHERE)
    stage = "tree"
    before = tree
    for number, step in enumerate(steps):
        place = step_wrong(stage, before, step)
        if place is not None:
            return (number, place)
        before = step[0]
        stage = stage_behind(stage, step[1][0])
    return None


def step_wrong(stage, before, step):
    if not is_tuple_of(step, 2) or not is_tuple_of(step[1], 2) or not isinstance(step[1][0], str):
        return NOWHERE
    checkers = checkers_by_kind(stage)
    if step[1][0] not in checkers:
        return NOWHERE
    checker = checkers[step[1][0]]
    return checker(before, step[0], step[1])


def stage_behind(stage, kind):
    """What there is behind a step with a paper of that kind."""
    return "machine" if kind == "dealt" or stage == "machine" else "program"
