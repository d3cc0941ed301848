"""From trees to the middle.

A block has params for just those variables that have other names by its several ways: where two parts of an if come
together, those that stand otherwise there; at a while's head, those that its part puts.
"""

from passpapers.plans import names_made, plan_of
from passpapers.tables import Scope, kind_number, parts_headed


class Making:
    """A function being made: its blocks so far, and how many names it has given."""

    def __init__(self, tree, fun):
        self.scope = Scope(tree, fun)
        self.blocks = []
        self.many_names = 0

    def new_name(self):
        self.many_names += 1
        return self.many_names - 1

    def kind_of(self, variable):
        return kind_number(self.scope.records, self.scope.kinds[variable])


class Block:
    """A block being made; known are the names of variables at its beginning, names those where it has got to."""

    def __init__(self, making, known):
        self.label = len(making.blocks)
        self.params = []
        self.rows = []
        self.end = None
        self.known = dict(known)
        self.names = dict(known)
        making.blocks.append(self)

    def add_param(self, making, variable):
        name = making.new_name()
        self.params.append((name, making.kind_of(variable)))
        self.known[variable] = name
        self.names[variable] = name

    def jump_to(self, block):
        """Ends with a jump, with what stands here for the variables of that block's params."""
        standing = {name: self.names[variable] for variable, name in block.known.items()}
        self.end = ("jump", block.label, tuple([standing[name] for name, kind in block.params]))


def add_row(making, block, op, told, args):
    name = making.new_name()
    block.rows.append((name, op, told, args))
    return name


def add_steps(making, block, steps):
    return names_made(steps, block.names, lambda op, told, args: add_row(making, block, op, told, args))


def make_run(making, block, item):
    name = add_steps(making, block, item[1])
    if item[2] is not None:
        block.names[item[2]] = name
    return block


def make_if(making, block, item):
    name = add_steps(making, block, item[1])
    known = dict(block.names)
    first = Block(making, known)
    first_last = make_plan(making, first, item[2])
    second = Block(making, known)
    second_last = make_plan(making, second, item[3])
    block.end = ("branch", name, first.label, (), second.label, ())
    if first_last is None:
        return left(second_last, known)
    if second_last is None:
        return left(first_last, known)
    return make_join(making, known, first_last, second_last)


def left(block, known):
    """The block, if any, in which what follows goes on: variables that the part let are no longer wanted."""
    if block is not None:
        block.names = {variable: block.names[variable] for variable in known}
    return block


def make_join(making, known, first, second):
    same = {variable: first.names[variable] for variable in known}
    block = Block(making, same)
    for variable in known:
        if first.names[variable] != second.names[variable]:
            block.add_param(making, variable)
    first.jump_to(block)
    second.jump_to(block)
    return block


def is_changed(plan, variable):
    """Whether the plan lets or puts the variable."""
    for item in plan:
        if item[0] == "run" and item[2] == variable:
            return True
        if item[0] in ("if", "while") and any([is_changed(part, variable) for part in item[2:]]):
            return True
    return False


def make_while(making, block, item):
    head = Block(making, block.names)
    for variable in block.names:
        if is_changed(item[2], variable):
            head.add_param(making, variable)
    block.jump_to(head)
    add_row(making, head, "tick", None, ())
    name = add_steps(making, head, item[1])
    part = Block(making, head.names)
    last = make_plan(making, part, item[2])
    if last is not None:
        last.jump_to(head)
    behind = Block(making, head.names)
    head.end = ("branch", name, part.label, (), behind.label, ())
    return behind


def make_give(making, block, item):
    block.end = ("give", add_steps(making, block, item[1]))
    return None


def make_fail(making, block, item):
    block.end = item
    return None


MAKES = {"run": make_run, "if": make_if, "while": make_while, "give": make_give, "fail": make_fail}


def make_plan(making, block, plan):
    """Makes the plan's rows and blocks from that block on; tells the block that they come to, None where they end."""
    for item in plan:
        action = MAKES[item[0]]
        block = action(making, block, item)
    return block


def function_lowered(tree, fun):
    """The function of the middle, and its part of the paper."""
    making = Making(tree, fun)
    known = {variable: making.new_name() for variable in fun[2][::2]}
    params = tuple([(name, making.kind_of(variable)) for variable, name in known.items()])
    make_plan(making, Block(making, known), plan_of(tree, fun))
    blocks = tuple([(made.label, tuple(made.params), tuple(made.rows), made.end) for made in making.blocks])
    told = tuple([(made.label, tuple(made.known.items())) for made in making.blocks[1:]])
    return (fun[1], params, kind_number(making.scope.records, fun[3]), blocks), told


def lower(tree):
    """(program, paper): the tree as a program of the middle."""
    lowered = [function_lowered(tree, fun) for fun in parts_headed(tree, "fun").values()]
    program = tuple([function for function, told in lowered])
    return program, ("lowered", tuple([told for function, told in lowered]))
