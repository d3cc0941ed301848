"""Things, and the texts that write them."""

from passpapers.errors import NoText
from passpapers.numbers import is_of_language

DEEPEST = 40
# The language's numbers have no more figures; ones of thousands of figures must not be made into ints at all.
MOST_FIGURES = 5


def writes_a_number(piece):
    figures = piece[1:] if piece.startswith("-") else piece
    if not figures.isdigit() or len(figures) > MOST_FIGURES:
        return False
    if figures.startswith("0") and piece != "0":
        return False
    return is_of_language(int(piece))


def piece_read(piece):
    if piece == "":
        raise NoText("a blank too many, or no signs at all")
    for sign in piece:
        if sign in ("(", ")") or not "!" <= sign <= "~":
            raise NoText("a sign that no piece has")
    return int(piece) if writes_a_number(piece) else piece


def brackets_read(text):
    """The thing that text writes."""
    levels = [[]]
    for piece in text.split(" "):
        if piece == "(":
            if len(levels) > DEEPEST:
                raise NoText("too many brackets within one another")
            levels.append([])
        elif piece == ")":
            if len(levels) == 1:
                raise NoText("a bracket closes what was not begun")
            parts = levels.pop()
            levels[-1].append(tuple(parts))
        else:
            levels[-1].append(piece_read(piece))
    if len(levels) > 1:
        raise NoText("a bracket is not closed")
    if len(levels[0]) > 1:
        raise NoText("something stands behind the thing")
    return levels[0][0]


def brackets_shown(thing):
    """The text that writes thing."""
    if not isinstance(thing, tuple):
        return str(thing)
    return " ".join(["("] + [brackets_shown(part) for part in thing] + [")"])
