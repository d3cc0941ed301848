"""Trees run.

Each function becomes a list of steps, with jumps among them, and the calls that are under way are kept in a list of
their own: so calls may be as deep within one another as the bound lets.
"""

from passpapers.plans import plan_of
from passpapers.runs import Ended, run_within, value_of
from passpapers.tables import parts_headed


def code_of_run(code, item):
    code.extend(item[1])
    code.append(("keep", item[2], 1))


def code_of_if(code, item):
    code.extend(item[1])
    branch = len(code)
    code.append(None)
    add_code(code, item[2])
    leap = len(code)
    code.append(None)
    code[branch] = ("unless", len(code), 1)
    add_code(code, item[3])
    code[leap] = ("goto", len(code), 0)


def code_of_while(code, item):
    head = len(code)
    code.extend([("tick", None, 0), ("keep", None, 1)] + item[1])
    branch = len(code)
    code.append(None)
    add_code(code, item[2])
    code.append(("goto", head, 0))
    code[branch] = ("unless", len(code), 1)


def code_of_give(code, item):
    code.extend(item[1])
    code.append(("give", None, 1))


def code_of_fail(code, item):
    code.append(("fail", item[1], 0))


CODES = {
    "run": code_of_run, "if": code_of_if, "while": code_of_while, "give": code_of_give, "fail": code_of_fail,
}


def add_code(code, plan):
    for item in plan:
        action = CODES[item[0]]
        action(code, item)


class Call:
    """A call under way: its function's steps, the next one, its variables, and values not yet used."""

    def __init__(self, code, variables, values):
        self.code = code
        self.next_step = 0
        self.variables = dict(zip(variables, values))
        self.stack = []

    def taken(self, count):
        """The last values, taken off the stack."""
        start = len(self.stack) - count
        args = self.stack[start:]
        del self.stack[start:]
        return args

    def step_done(self, run, op, told, args):
        """Does a step that neither calls nor gives."""
        if op == "var":
            self.stack.append(self.variables[told])
        elif op == "keep":
            if told is not None:
                self.variables[told] = args[0]
        elif op == "goto" or (op == "unless" and args[0] == 0):
            self.next_step = told
        elif op == "fail":
            raise Ended("fault", f"fail {told}")
        elif op != "unless":
            self.stack.append(value_of(run, op, told, args))


def codes_of(tree):
    """Each function's steps and variables, by its name."""
    codes = {}
    for name, fun in parts_headed(tree, "fun").items():
        code = []
        add_code(code, plan_of(tree, fun))
        codes[name] = (code, fun[2][::2])
    return codes


def answer_of(codes, inputs, run):
    code, variables = codes["main"]
    calls = [Call(code, variables, inputs)]
    while True:
        call = calls[-1]
        op, told, count = call.code[call.next_step]
        call.next_step += 1
        args = call.taken(count) if count > 0 else []
        if op == "call":
            run.count_tick()
            code, variables = codes[told]
            calls.append(Call(code, variables, args))
        elif op == "give":
            calls.pop()
            if len(calls) == 0:
                return args[0]
            calls[-1].stack.append(args[0])
        else:
            call.step_done(run, op, told, args)


def tree_run(tree, inputs, bound):
    """(end, value, letters): how the tree's main, handed these inputs, runs within that bound of ticks."""
    return run_within(bound, lambda run: answer_of(codes_of(tree), inputs, run))[:3]
