"""Code of modules: each function with a frame for all that it binds and works out, x for calls alone."""

from arrivalmill.errors import Unsound
from arrivalmill.liftheads import Matching, lift_case, lift_clauses, lift_if, with_nothing_hidden
from arrivalmill.liftvalues import CALLS, VALUES, constant_of, lift_call, lift_value, opened
from arrivalmill.liftwaits import lift_catch, lift_list, lift_receive, lift_try
from arrivalmill.looker import is_sound, look_over
from arrivalmill.preparing import program_of
from arrivalmill.rows import Code
from arrivalmill.sheets import Sheet
from arrivalmill.signs import atom_text

def code_of(module):
    """Code that does the same as a module."""
    if not is_sound(module):
        raise Unsound(look_over(module))
    lifter = Lifter(program_of(module))
    lifter.write_functions()
    return Code("\n".join(lifter.lines_of(module)))


def _case(lift, node, env, dest):
    return lift_case(lift, node, env, dest)


def _if(lift, node, env, dest):
    return lift_if(lift, node, env, dest)


def _receive(lift, node, env, dest):
    return lift_receive(lift, node, env, dest)


def _try(lift, node, env, dest):
    return lift_try(lift, node, env, dest)


def _catch(lift, node, env, dest):
    return lift_catch(lift, node, env, dest)


def _list(lift, node, env, dest):
    return lift_list(lift, node, env, dest)


LIFTS = {"case": _case, "if": _if, "receive": _receive, "try": _try, "catch": _catch, "list": _list}


class Lifter:
    """Writes the code of a program on a sheet, function by function; funs where they are made are written behind."""

    def __init__(self, program):
        self.program = program
        self.sheet = Sheet()
        self.functions = {entry: self.sheet.label() for entry in program.functions}
        self.fun_labels = {}

    def write_functions(self):
        """Writes all functions, and all funs."""
        for name, many in self.program.functions:
            self.write_function(name, many)
        for number in sorted(self.program.funs):
            self.write_fun(number)

    def write_function(self, name, many):
        """Writes a function."""
        sheet = self.sheet
        sheet.begin_function(self.functions[(name, many)])
        sources = self.argument_slots(0, many)
        clauses = with_nothing_hidden(self.program.functions[(name, many)])
        lift_clauses(self, clauses, sources, {}, None, ("fail", "function_clause"))
        sheet.end_function()

    def write_fun(self, number):
        """Writes a fun: behind its arguments stands what it holds; its own name is made anew."""
        sheet = self.sheet
        clauses, names, own = self.program.funs[number]
        many = len(clauses[0][0])
        sheet.begin_function(self.fun_label(number))
        sources = self.argument_slots(0, many)
        held = self.argument_slots(many, len(names))
        env = dict(zip(names, held))
        if own is not None:
            env[own] = sheet.slots.take()
            sheet.write("fun", number, self.fun_label(number), many, env[own], *held)
        lift_clauses(self, clauses, sources, env, None, ("fail", "function_clause"))
        sheet.end_function()

    def argument_slots(self, first, many):
        """The slots to which arguments go."""
        slots = [self.sheet.slots.take() for _ in range(many)]
        for number, slot in enumerate(slots):
            self.sheet.write("move", "x" + str(first + number), slot)
        return slots

    def fun_label(self, number):
        """The label at which a fun begins."""
        if number not in self.fun_labels:
            self.fun_labels[number] = self.sheet.label()
        return self.fun_labels[number]

    def lines_of(self, module):
        """All lines of the code."""
        sheet = self.sheet
        lines = ["code " + atom_text(module.name)]
        lines.extend(["const " + str(number) + " " + text for number, text in enumerate(sheet.constants)])
        for name, many in module.functions:
            lines.append("entry " + atom_text(name) + " " + str(many) + " " + str(self.functions[(name, many)]))
        lines.extend(["export " + atom_text(name) + " " + str(many) for name, many in module.exports])
        return [*lines, *sheet.lines]

    def node(self, node, env, dest):
        """Writes a node, whose value goes to dest: the names behind it."""
        if node[0] == "plain":
            source = self.source_known(node[1], env)
            if source is not None:
                self.give_value(source, dest)
                return env
            node = opened(node[1])
        if node[0] in VALUES:
            return lift_value(self, node, env, dest)
        if node[0] in CALLS:
            return lift_call(self, node, env, dest)
        work = LIFTS[node[0]]
        return work(self, node, env, dest)

    def source_known(self, form, env):
        """The source of a constant, or a name; None for any other form."""
        if form[0] == "name":
            return env[form[1]]
        term = constant_of(form)
        return None if term is None else self.sheet.constant(term)

    def give_value(self, source, dest):
        """Writes that a value goes to dest, or is returned."""
        if dest is None:
            self.sheet.write("move", source, "x0")
            self.sheet.write("unframe")
            self.sheet.write("return")
        elif source != dest:
            self.sheet.write("move", source, dest)

    def source(self, node, env, taken):
        """Writes a node: the source in which its value stands, and the names behind it; slots go to taken."""
        if node[0] == "plain":
            source = self.source_known(node[1], env)
            if source is not None:
                return source, env
        slot = self.sheet.slots.take()
        taken.append(slot)
        return slot, self.node(node, env, slot)

    def sources(self, nodes, env, taken):
        """Writes nodes that each see what is bound ahead of all of them: their sources, and the names behind."""
        found = []
        behind = env
        for node in nodes:
            source, names = self.source(node, env, taken)
            found.append(source)
            behind = {**behind, **names}
        return found, behind

    def body(self, nodes, env, dest):
        """Writes nodes one behind the other: the names behind them."""
        for node in nodes[:-1]:
            taken = []
            _, env = self.source(node, env, taken)
            self.sheet.slots.give_back(taken)
        return self.node(nodes[-1], env, dest)

    def matched(self, pattern, source, env, ahead, fail):
        """Writes a pattern held against a source: the names behind it."""
        matching = Matching(self.sheet, env, ahead, fail)
        matching.match(pattern, source)
        return matching.names
