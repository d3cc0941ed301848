"""Whether things are unlike one another."""


def first_again(things):
    """The index of the first of these things that stands ahead of it already; None where all are unlike."""
    met = {}
    for index, thing in enumerate(things):
        if thing in met:
            return index
        met[thing] = True
    return None


def all_unlike(things):
    return first_again(things) is None
