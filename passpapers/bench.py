"""A block of the middle being dealt: what the registers hold while its rows are gone through."""

from passpapers.copies import row_loaded, row_saved, rows_copied
from passpapers.places import slot_place


class Slots:
    """Which slot is whose: each name gets one of its own where one is asked for."""

    def __init__(self, names):
        self.numbers = {name: slot for slot, name in enumerate(names)}

    def slot_of(self, name):
        return self.numbers.setdefault(name, len(self.numbers))

    def place_of(self, name):
        """The name in its slot, as a paper tells it."""
        return (slot_place(self.slot_of(name)), name)


class Bench:
    """The machine's rows so far, what each register holds, which names are in their slots, and where names are used.

    Uses are the indexes of the rows, or of the end, that read a name from a register, the next one last. Lasting are
    the names that have to be in their slots, too.
    """

    def __init__(self, registers, slots, saved):
        self.slots = slots
        self.rows = []
        self.held = [None] * registers
        self.saved = {name: True for name in saved}
        self.uses = {}
        self.lasting = {}

    def note_uses(self, index, names):
        """Notes uses ahead of all those that are noted already."""
        for name in names:
            uses = self.uses.setdefault(name, [])
            if index not in uses[-1:]:
                uses.append(index)

    def note_lasting(self, names):
        self.lasting.update({name: True for name in names})

    def uses_left(self, name):
        return self.uses.get(name, [])

    def spend_uses(self, index, names):
        for name in names:
            if index in self.uses[name][-1:]:
                self.uses[name].pop()

    def save(self, source):
        """Has what that register holds in its slot, too."""
        name = self.held[source]
        if name not in self.saved:
            self.saved[name] = True
            self.rows.append(row_saved(self.slots.slot_of(name), source))

    def room(self, kept):
        """A register that may be written: one that isn't used any longer, else the one used last, but none kept."""
        found = None
        farthest = -1
        for source, name in enumerate(self.held):
            uses = self.uses_left(name)
            if len(uses) == 0:
                return source
            if name not in kept and uses[-1] > farthest:
                found = source
                farthest = uses[-1]
        self.save(found)
        return found

    def fetched(self, name, kept):
        """The register that holds the name, which is loaded there if none does."""
        if name not in self.held:
            source = self.room(kept)
            self.rows.append(row_loaded(self.slots.slot_of(name), source))
            self.held[source] = name
        return self.held.index(name)

    def deal_row(self, index, row):
        name, op, told, args = row
        if op == "call":
            sources = [self.slots.slot_of(arg) for arg in args]
        else:
            sources = [self.fetched(arg, args) for arg in args]
            self.spend_uses(index, args)
        target = None
        if name in self.lasting or len(self.uses_left(name)) > 0:
            target = self.room(())
            self.held[target] = name
        self.rows.append((op, told, target, tuple(sources)))
        if name in self.lasting:
            self.save(target)

    def places_of(self, names):
        """All places that hold these names, as a paper tells them."""
        places = [self.slots.place_of(name) for name in names if name in self.saved]
        return places + [(source, name) for source, name in enumerate(self.held) if name in names]

    def rows_handing(self, handed):
        """Rows by which params' slots get their arguments; handed are (param, arg), none of which is its own arg."""
        args = [arg for param, arg in handed]
        sources = {name: source for source, name in enumerate(self.held) if name in args}
        rows = []
        if not all([arg in sources for arg in args]):
            # From slot to slot values go by two registers, so nothing may be wanted from these.
            while len(sources) > len(self.held) - 2:
                name = list(sources)[-1]
                source = sources.pop(name)
                if name not in self.saved:
                    rows.append(row_saved(self.slots.slot_of(name), source))
        used = list(sources.values())
        free = [source for source in range(len(self.held)) if source not in used]
        places = [sources.get(arg, self.slots.place_of(arg)[0]) for arg in args]
        slots = [self.slots.slot_of(param) for param, arg in handed]
        return rows + rows_copied(list(zip(slots, places)), free)
