"""Names and labels that are free."""


class Numbering:
    """Hands out numbers, each once: the wished one where it is free, else the least one that is none of the old."""

    def __init__(self, old):
        self.old = {number: True for number in old}
        self.handed_out = {}
        self.least = 0

    def number_for(self, wished):
        number = wished
        if wished in self.handed_out:
            while self.least in self.old or self.least in self.handed_out:
                self.least += 1
            number = self.least
        self.handed_out[number] = True
        return number


def numbering_behind(taken, wished):
    """Hands out numbers that are none of those taken, and of those wished each to who wishes it alone."""
    numbering = Numbering(list(taken) + list(wished))
    for number in taken:
        numbering.number_for(number)
    return numbering
