"""Right trees grown by a seed, for tests that want many of them."""

import random

SUMS = ("+", "-", "*", "/", "rest")
PLAIN = ("number", "truth", "list")


class Grower:
    def __init__(self, seed):
        self.random = random.Random(seed)
        self.records = {}
        self.functions = {}
        self.many = 0

    def choice(self, things):
        return self.random.choice(list(things))

    def fresh(self, word):
        self.many += 1
        figures = ""
        number = self.many
        while number:
            figures += "abcdefghij"[number % 10]
            number //= 10
        return word + figures

    def tree(self):
        for word in ("point", "size")[:self.random.randint(0, 2)]:
            self.records[word] = ("x", "y", "z", "w")[:self.random.randint(1, 4)]
        names = ["main"] + [self.fresh("f") for k in range(self.random.randint(0, 2))]
        for name in names:
            self.functions[name] = self.head(name)
        self.random.shuffle(names)
        records = tuple(("record", name) + fields for name, fields in self.records.items())
        return ("program",) + records + tuple(self.fun(name) for name in names)

    def head(self, name):
        kinds = ("number",) if name == "main" else PLAIN + tuple(self.records)
        params = [(self.fresh("p"), self.choice(kinds)) for k in range(self.random.randint(0, 3))]
        return params, self.choice(kinds)

    def fun(self, name):
        params, kind = self.functions[name]
        self.gives = kind
        told = tuple(part for param in params for part in param)
        statements = self.statements(dict(params), 2, True)
        return ("fun", name, told, kind) + statements

    def statements(self, kinds, depth, ends):
        kinds = dict(kinds)
        made = [self.statement(kinds, depth) for k in range(self.random.randint(0, 4))]
        if ends:
            made.append(self.ending(kinds, depth))
        return tuple(made)

    def ending(self, kinds, depth):
        roll = self.random.random()
        if depth > 0 and roll < 0.3:
            parts = (self.statements(kinds, depth - 1, True), self.statements(kinds, depth - 1, True))
            return ("if", self.e(kinds, "truth", 2)) + parts
        if roll < 0.4:
            return ("fail", self.random.randint(-9, 9))
        return ("give", self.e(kinds, self.gives, 2))

    def statement(self, kinds, depth):
        word = self.choice(("let", "let", "put", "put", "out", "set", "store", "do", "if", "if", "while"))
        records = [name for name, kind in kinds.items() if kind in self.records]
        lists = [name for name, kind in kinds.items() if kind == "list"]
        if word == "put" and kinds:
            name = self.choice(kinds)
            return ("put", name, self.e(kinds, kinds[name], 2))
        if word == "set" and records:
            name = self.choice(records)
            return ("set", name, self.choice(self.records[kinds[name]]), self.e(kinds, "number", 1))
        if word == "store" and lists:
            return ("store", self.choice(lists), self.e(kinds, "number", 1), self.e(kinds, "number", 1))
        if word == "do":
            return ("do", self.e(kinds, self.choice(PLAIN + tuple(self.records)), 2))
        if word in ("if", "while") and depth > 0:
            parts = [self.statements(kinds, depth - 1, self.random.random() < 0.25) for side in "ab"]
            if word == "while":
                return ("while", self.e(kinds, "truth", 2), parts[0])
            if any(ends_so(part) for part in parts) and all(ends_so(part) for part in parts):
                parts[1] = ()
            return ("if", self.e(kinds, "truth", 2), parts[0], parts[1])
        if word == "let":
            name, kind = self.fresh("v"), self.choice(PLAIN + tuple(self.records))
            made = ("let", name, self.e(kinds, kind, 2))
            kinds[name] = kind
            return made
        return ("out", self.e(kinds, "number", 2))

    def e(self, kinds, kind, depth):
        same = [name for name, other in kinds.items() if other == kind]
        if same and self.random.random() < 0.4:
            return self.choice(same)
        callees = [name for name, (params, gives) in self.functions.items() if gives == kind]
        if depth > 0 and callees and self.random.random() < 0.15:
            name = self.choice(callees)
            return ("call", name) + tuple(self.e(kinds, other, 0) for p, other in self.functions[name][0])
        if kind in self.records:
            return ("new", kind)
        if kind == "list":
            return ("list", self.e(kinds, "number", depth - 1) if depth > 0 else self.random.randint(0, 5))
        return self.truth(kinds, depth) if kind == "truth" else self.number(kinds, depth)

    def truth(self, kinds, depth):
        if depth <= 0:
            return self.choice(("yes", "no"))
        word = self.choice(("<", "=", "=", "and", "or", "not"))
        if word == "not":
            return ("not", self.e(kinds, "truth", depth - 1))
        kind = "truth" if word in ("and", "or") or (word == "=" and self.random.random() < 0.5) else "number"
        return (word, self.e(kinds, kind, depth - 1), self.e(kinds, kind, depth - 1))

    def number(self, kinds, depth):
        records = [name for name, kind in kinds.items() if kind in self.records]
        if depth <= 0 or self.random.random() < 0.2:
            return self.choice((0, 1, 2, 3, 7, -1, 100, -32768, 32767))
        word = self.choice(SUMS + ("get", "long", "at"))
        if word == "get" and records:
            name = self.choice(records)
            return ("get", name, self.choice(self.records[kinds[name]]))
        if word == "long":
            return ("long", self.e(kinds, "list", depth - 1))
        if word == "at":
            return ("at", self.e(kinds, "list", depth - 1), self.e(kinds, "number", 0))
        word = word if word in SUMS else "+"
        return (word, self.e(kinds, "number", depth - 1), self.e(kinds, "number", depth - 1))


def ends_so(statements):
    """Whether the last of these statements ends."""
    if not statements:
        return False
    last = statements[-1]
    if last[0] == "if":
        return ends_so(last[2]) and ends_so(last[3])
    return last[0] in ("give", "fail")


def grown(seed):
    return Grower(seed).tree()


def inputs_of(tree, seed):
    """A list of numbers for main."""
    main = [part for part in tree[1:] if part[0] == "fun" and part[1] == "main"][0]
    chooser = random.Random(seed)
    return [chooser.choice((0, 1, 2, 5, -3, 17, 32767, -32768)) for k in main[2][::2]]
