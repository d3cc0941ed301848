"""Which places of a machine hold the values of which names."""


class Holding:
    """What each place holds; a place may hold several names, and a name be held by several places.

    A place may be open, too: it holds what one of some sources held, and it isn't yet told which one. Each time a name
    is asked of it, only such sources are left that hold this name.
    """

    def __init__(self, places):
        self.names = {}
        self.wheres = {}
        self.open_places = {}
        self.sources = []
        for where, name in places:
            self.add_name(where, name)

    def add_name(self, where, name):
        self.names.setdefault(where, {})[name] = True
        self.wheres.setdefault(name, {})[where] = True

    def take_all(self, where):
        """The place holds nothing any longer."""
        self.open_places.pop(where, None)
        for name in self.names.pop(where, {}):
            del self.wheres[name][where]

    def carry(self, source, target):
        """The target holds what the source does."""
        if source == target:
            return
        self.take_all(target)
        for name in list(self.names.get(source, {})):
            self.add_name(target, name)
        if source in self.open_places:
            self.open_places[target] = True

    def give(self, name, target):
        """The name gets a new value: the target, if any, holds it alone, and nothing else does."""
        for where in self.wheres.pop(name, {}):
            del self.names[where][name]
        for names in self.sources:
            names.pop(name, None)
        if target is not None:
            self.take_all(target)
            self.add_name(target, name)

    def open_place(self, target):
        """The target holds what some place does from which a row can carry it there."""
        sources = [names for where, names in self.names.items() if target >= 0 or where >= 0]
        self.sources = [dict(names) for names in sources]
        self.take_all(target)
        self.open_places[target] = True

    def is_held(self, where, name):
        if name in self.names.get(where, {}):
            return True
        left = [names for names in self.sources if name in names]
        if where not in self.open_places or len(left) == 0:
            return False
        self.sources = left
        return True

    def where_held(self, name):
        """The places that hold the name."""
        return list(self.wheres.get(name, {}))
