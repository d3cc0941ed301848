"""Rounds unrolled: their blocks copied, so that one turn goes on in the next copy."""

from passpapers.laying import laid_out
from passpapers.pieces import pieces_met
from passpapers.rounds import rounds_of


def unroll(program, times):
    """(outcome, paper): each round in which no other round's head stands has so many copies."""
    return laid_out(program, lambda function: pieces_unrolled(function, times))


def innermost(function):
    """The rounds in which no other round's head stands."""
    rounds = rounds_of(function)
    heads = [part.head for part in rounds]
    return [part for part in rounds if len([head for head in heads if head in part.inside]) == 1]


def pieces_unrolled(function, times):
    # No block stands in two of these rounds.
    heads = {label: part.head for part in innermost(function) for label in part.inside}
    return pieces_met(function, lambda key: (key[0],), lambda key, label: key_led(key, label, heads, times))


def key_led(key, label, heads, times):
    """The next copy at a round's head, the same one within the round, the first one elsewhere."""
    if key[0] not in heads or heads.get(label) != heads[key[0]]:
        return (label, 0)
    if label == heads[label]:
        return (label, (key[1] + 1) % times)
    return (label, key[1])
