"""A plain run of trees, each E by itself and calls within one another, to hold the package's own run against."""


class Over(Exception):
    pass


class Gave(Exception):
    pass


def wrap(number):
    return (number + 32768) % 65536 - 32768


class Oracle:
    def __init__(self, tree, bound):
        self.records = {part[1]: part[2:] for part in tree[1:] if part[0] == "record"}
        self.functions = {part[1]: part for part in tree[1:] if part[0] == "fun"}
        self.left = bound
        self.letters = []

    def tick(self):
        if self.left == 0:
            raise Over("more", None)
        self.left -= 1

    def call(self, name, args):
        fun = self.functions[name]
        try:
            self.run(fun[4:], dict(zip(fun[2][::2], args)))
        except Gave as gave:
            return gave.args[0]

    def run(self, statements, held):
        for word, *parts in statements:
            if word in ("let", "put"):
                held[parts[0]] = self.e(parts[1], held)
            elif word == "if":
                self.run(parts[1] if self.e(parts[0], held) else parts[2], held)
            elif word == "while":
                self.tick()
                while self.e(parts[0], held):
                    self.run(parts[1], held)
                    self.tick()
            elif word == "give":
                raise Gave(self.e(parts[0], held))
            elif word == "fail":
                raise Over("fault", "fail " + str(parts[0]))
            elif word == "out":
                self.letters.append(self.e(parts[0], held))
            elif word == "set":
                record = self.e(parts[0], held)
                record[parts[1]] = self.e(parts[2], held)
            elif word == "store":
                numbers, place, number = [self.e(part, held) for part in parts]
                self.want_place(numbers, place)
                numbers[place] = number
            else:
                self.e(parts[0], held)

    def want_place(self, numbers, place):
        if place not in range(len(numbers)):
            raise Over("fault", "range")

    def e(self, e, held):
        if isinstance(e, int):
            return e
        if isinstance(e, str):
            return {"yes": 1, "no": 0}[e] if e in ("yes", "no") else held[e]
        if e[0] == "new":
            return {field: 0 for field in self.records[e[1]]}
        if e[0] == "get":
            return self.e(e[1], held)[e[2]]
        if e[0] == "call":
            args = [self.e(part, held) for part in e[2:]]
            self.tick()
            return self.call(e[1], args)
        args = [self.e(part, held) for part in e[1:]]
        if e[0] == "list":
            if args[0] not in range(17):
                raise Over("fault", "size")
            return [0] * args[0]
        if e[0] == "long":
            return len(args[0])
        if e[0] == "at":
            self.want_place(*args)
            return args[0][args[1]]
        if e[0] in ("/", "rest") and args[1] == 0:
            raise Over("fault", "nought")
        return {
            "+": lambda: wrap(args[0] + args[1]), "-": lambda: wrap(args[0] - args[1]),
            "*": lambda: wrap(args[0] * args[1]), "/": lambda: wrap(args[0] // args[1]),
            "rest": lambda: args[0] % args[1], "<": lambda: int(args[0] < args[1]),
            "=": lambda: int(args[0] == args[1]), "and": lambda: int(bool(args[0] and args[1])),
            "or": lambda: int(bool(args[0] or args[1])), "not": lambda: int(not args[0]),
        }[e[0]]()


def told(tree, inputs, bound):
    oracle = Oracle(tree, bound)
    try:
        answer = oracle.call("main", inputs)
    except Over as over:
        return over.args + (tuple(oracle.letters),)
    return ("answer", answer, tuple(oracle.letters))
