"""What a right tree tells of its records, functions and variables."""

RESULTS = {
    "+": "number", "-": "number", "*": "number", "/": "number", "rest": "number",
    "<": "truth", "=": "truth", "and": "truth", "or": "truth", "not": "truth",
    "get": "number", "list": "list", "long": "number", "at": "number",
}


def parts_headed(tree, word):
    """The tree's parts of that sort by their names, in order."""
    return {part[1]: part for part in tree[1:] if part[0] == word}


class Scope:
    """What a function's statements speak of: the tree's records and functions, and the kinds of its own variables."""

    def __init__(self, tree, fun):
        self.records = {name: record[2:] for name, record in parts_headed(tree, "record").items()}
        self.functions = parts_headed(tree, "fun")
        self.kinds = dict(zip(fun[2][::2], fun[2][1::2]))
        self.learn(fun[4:])

    def learn(self, statements):
        """Each variable is let once in its function, so one kind for each will do."""
        for statement in statements:
            if statement[0] == "let":
                self.kinds[statement[1]] = self.kind_made(statement[2])
            elif statement[0] == "if":
                self.learn(statement[2])
                self.learn(statement[3])
            elif statement[0] == "while":
                self.learn(statement[2])

    def kind_made(self, e):
        """The kind of an E."""
        if isinstance(e, int):
            return "number"
        if isinstance(e, str):
            return "truth" if e in ("yes", "no") else self.kinds[e]
        if e[0] == "call":
            return self.functions[e[1]][3]
        if e[0] == "new":
            return e[1]
        return RESULTS[e[0]]

    def place_of_field(self, e, field):
        """Which field, counted from 0 on, that one is of the record that E gives."""
        return self.records[self.kind_made(e)].index(field)


def kind_number(records, kind):
    """A tree's kind as one of the middle; records are fields by names."""
    if kind in ("number", "truth"):
        return 0
    return -1 if kind == "list" else len(records[kind])
