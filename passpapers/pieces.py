"""The blocks that an outcome is to have, told by paths of blocks of before."""

from passpapers.flow import first_label
from passpapers.middle import block_of, ways_of

MOST_BLOCKS = 60
MOST_ROWS = 400


class Piece:
    """A block that an outcome is to have: its key, its path, and the keys of the pieces to which its ways lead.

    A key is (label, copy): the label with which the path begins, and which copy of it this is.
    """

    def __init__(self, key, path, keys):
        self.key = key
        self.path = path
        self.next_keys = keys


def pieces_met(function, path_from, key_led):
    """The pieces to which a way leads from the first, in the order of the function's blocks.

    path_from tells the path of a key, key_led the key of the piece to which a key's way to a label leads.
    """
    met = {}
    waiting = [(first_label(function), 0)]
    while len(waiting) > 0:
        key = waiting.pop()
        if key not in met:
            path = path_from(key)
            keys = [key_led(key, label) for label, args in ways_of(block_of(function, path[-1])[3])]
            met[key] = Piece(key, path, keys)
            waiting.extend(keys)
    copies = sorted(set([copy for label, copy in met]))
    order = [(block[0], copy) for block in function[3] for copy in copies]
    return [met[key] for key in order if key in met]


def pieces_along(function, paths):
    """The pieces that begin where these paths do; paths has one for each label to which a way leads."""
    return pieces_met(function, lambda key: paths[key[0]], lambda key, label: (label, 0))


def is_all_as_it_was(function, pieces):
    return [piece.path for piece in pieces] == [(block[0],) for block in function[3]]


def is_too_much(function, pieces):
    rows = [row for piece in pieces for label in piece.path for row in block_of(function, label)[2]]
    return len(pieces) > MOST_BLOCKS or len(rows) > MOST_ROWS
