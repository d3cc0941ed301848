"""A tree led through a chain of passes."""

from passpapers.dealing import deal
from passpapers.dropping import drop
from passpapers.errors import NoPass
from passpapers.joining import join_blocks
from passpapers.keeping import keep
from passpapers.knowing import know
from passpapers.lowering import lower
from passpapers.moving import move_out
from passpapers.ordering import order_rows
from passpapers.placing import place_first
from passpapers.threading import thread
from passpapers.turning import turn_rounds
from passpapers.unrolling import unroll

TIMES_UNROLLED = 2


def passes_by(registers, delays):
    """The passes by their words."""
    return {
        "know": know, "drop": drop, "move": move_out, "join": join_blocks, "thread": thread, "turn": turn_rounds,
        "unroll": lambda program: unroll(program, TIMES_UNROLLED), "place": place_first, "keep": keep,
        "deal": lambda program: deal(program, registers),
        "order": lambda machine: order_rows(machine, delays),
    }


def look_at_order(order, passes):
    """None, or NoPass: deal once at most, order behind it alone, the others ahead of it."""
    is_dealt = False
    for word in order:
        if word not in passes:
            raise NoPass("there is no such pass")
        if is_dealt != (word == "order"):
            raise NoPass("a pass of programs stands behind deal, or order ahead of it")
        is_dealt = is_dealt or word == "deal"


def driven(tree, order, registers, delays):
    """A list of steps (outcome, paper): the tree lowered, then what the pass of each word tells of the one ahead."""
    passes = passes_by(registers, delays)
    look_at_order(order, passes)
    steps = [lower(tree)]
    for word in order:
        action = passes[word]
        steps.append(action(steps[-1][0]))
    return steps
