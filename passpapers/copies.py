"""Rows that copy values into slots all at once: none is lost, though slots may be both read and written."""

from passpapers.places import slot_at, slot_place


def row_loaded(slot, target):
    return ("load", slot, target, ())


def row_saved(slot, source):
    return ("save", slot, None, (source,))


class Copies:
    """Copies still to be made: for each slot the place that it is to have its value from, and how many read a place.

    By the first free register values go from slot to slot, the next one holds a value where slots go round in a ring.
    """

    def __init__(self, wanted, free):
        self.wanted = dict(wanted)
        self.free = free
        self.carried = None
        self.rows = []
        self.many_readers = {}
        for source in self.wanted.values():
            self.many_readers[source] = self.many_readers.get(source, 0) + 1

    def copy_to(self, slot):
        """Makes the copy to that slot; tells the place that it came from."""
        source = self.wanted.pop(slot)
        if source < 0:
            if self.carried != source:
                self.rows.append(row_loaded(slot_at(source), self.free[0]))
                self.carried = source
            self.rows.append(row_saved(slot, self.free[0]))
        else:
            self.rows.append(row_saved(slot, source))
        self.many_readers[source] -= 1
        return source

    def copy_along(self, slot):
        """Makes the copy to that slot, then the one to where it came from, if nothing else reads that, and so on."""
        source = self.copy_to(slot)
        while source < 0 and self.many_readers[source] == 0 and slot_at(source) in self.wanted:
            source = self.copy_to(slot_at(source))

    def break_ring(self, slot):
        """Has a register hold what the slot is to have; tells the slot that held it."""
        source = self.wanted[slot]
        self.rows.append(row_loaded(slot_at(source), self.free[1]))
        self.wanted[slot] = self.free[1]
        self.many_readers[self.free[1]] = 1
        return slot_at(source)


def rows_copied(wanted, free):
    """Rows by which each slot gets what its place held; wanted are (slot, place), unlike slots, none from itself.

    Free are registers from which nothing is wanted: two at least where something is wanted from a slot.
    """
    copies = Copies(wanted, free)
    for slot, place in wanted:
        if slot in copies.wanted and slot_place(slot) not in copies.many_readers:
            copies.copy_along(slot)
    # Now each slot that is left is read by just one other of these: they stand in rings.
    for slot, place in wanted:
        if slot in copies.wanted:
            copies.copy_along(copies.break_ring(slot))
    return copies.rows
