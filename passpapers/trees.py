"""Trees read and shown."""

from passpapers.brackets import brackets_read, brackets_shown
from passpapers.kinds import look_at_tree


def tree_read(text):
    """The tree that text writes; else NoText or NoTree."""
    tree = brackets_read(text)
    look_at_tree(tree)
    return tree


def tree_shown(tree):
    return brackets_shown(tree)
