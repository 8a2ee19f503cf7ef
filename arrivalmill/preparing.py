"""Makes programs of modules: their forms as nodes, in the shape in which they are worked out.

A node is a tuple that begins with its word. ("plain", form) needs no calls and binds no names. Nodes that are
worked out of parts alone are (word, parts, what else is wanted). Clauses are (patterns, guard, nodes of the body).
"""

from arrivalmill.forms import cons_parts, consed, names_in
from arrivalmill.scopes import held_names
from arrivalmill.tables import looks
from arrivalmill.walking import Walk

# Built-in functions that are not worked out of their arguments alone.
OF_STATE = ("make_ref", "apply")


class Program:
    """A module as it is worked out: exports, functions by (name, number), funs by their numbers."""

    def __init__(self, name, exports, functions, funs):
        self.name = name
        self.exports = exports
        self.functions = functions
        self.funs = funs


def program_of(module):
    """The program of a sound module."""
    numberer = Numberer()
    forms = [(name, many, numberer.numbered(clauses)) for name, many, clauses in module.forms[3]]
    walk = Walk()
    for _, _, clauses in forms:
        for clause in clauses:
            walk.clause(clause, {})
    preparer = Preparer(walk.bound_at_funs)
    functions = {(name, many): preparer.clause_nodes(clauses) for name, many, clauses in forms}
    return Program(module.name, module.exports, functions, preparer.funs)


class Numberer:
    """Gives each fun of forms its number, as it begins in the text, as a last part."""

    def __init__(self):
        self.count = 0

    def numbered(self, value):
        """Any part of forms, with its funs numbered."""
        if not isinstance(value, tuple) or not value:
            return value
        parts, end = cons_parts(value)
        if parts:
            return consed([self.numbered(part) for part in parts], self.numbered(end))
        if value[0] == "fun" or value[0] == "named":
            number = self.count
            self.count += 1
            return (*[self.numbered(part) for part in value], number)
        return tuple([self.numbered(part) for part in value])


class Preparer:
    """Makes nodes of forms; bound tells for each number of a fun which names are bound where it is made."""

    def __init__(self, bound):
        self.bound = bound
        self.funs = {}

    def node(self, form):
        """The node of an expression."""
        if form[0] not in MAKERS:
            return ("plain", form)
        make = MAKERS[form[0]]
        return make(self, form)

    def nodes(self, forms):
        """The nodes of expressions."""
        return tuple([self.node(form) for form in forms])

    def of_parts(self, form, word, parts, more):
        """The node of a form that is worked out of these parts alone."""
        nodes = self.nodes(parts)
        if word in PLAIN_WORDS and all([node[0] == "plain" for node in nodes]):
            return ("plain", form)
        return (word, nodes, more)

    def clause_nodes(self, clauses):
        """Clauses, with the nodes of their bodies."""
        return tuple([(patterns, guard, self.nodes(body)) for patterns, guard, body in clauses])

    def fun(self, form, own, clauses, number):
        """The node of a fun, which is kept by its number."""
        names = held_names(form, tuple(self.bound[number]))
        known = names if own is None else (*names, own)
        kept = []
        for patterns, guard, body in self.clause_nodes(clauses):
            heads, _ = names_in(patterns)
            hidden = tuple([name for name in known if name in heads])
            kept.append((patterns, guard, body, hidden))
        self.funs[number] = (tuple(kept), names, own)
        return ("fun", number, len(clauses[0][0]), names)


PLAIN_WORDS = ("tuple", "cons", "map", "op", "pure")


def _tuple(preparer, form):
    return preparer.of_parts(form, "tuple", form[1], None)


def _cons(preparer, form):
    parts, end = cons_parts(form)
    return preparer.of_parts(form, "cons", [*parts, end], None)


def _map(preparer, form):
    return preparer.of_parts(form, "map", [part for row in form[1] for part in row], None)


def _put(preparer, form):
    parts = [form[1], *[part for row in form[2] for part in row[1:]]]
    return preparer.of_parts(form, "put", parts, tuple([row[0] for row in form[2]]))


def _op(preparer, form):
    return preparer.of_parts(form, "op", form[2], form[1])


def _built(preparer, form):
    _, name, parts = form
    if looks(name, len(parts)):
        return preparer.of_parts(form, "ask", parts, name)
    return preparer.of_parts(form, name if name in OF_STATE else "pure", parts, name)


def _call(preparer, form):
    return preparer.of_parts(form, "call", form[2], form[1])


def _send(preparer, form):
    return preparer.of_parts(form, "send", form[1:], None)


def _outer(preparer, form):
    return preparer.of_parts(form, "outer", [form[1], form[2], *form[3]], None)


def _apply(preparer, form):
    return preparer.of_parts(form, "called", [form[1], *form[2]], None)


def _match(preparer, form):
    return ("match", preparer.node(form[2]), form[1])


def _left_first(preparer, form):
    left, right = preparer.nodes(form[1:])
    if left[0] == "plain" and right[0] == "plain":
        return ("plain", form)
    return (form[0], left, right)


def _fun(preparer, form):
    return preparer.fun(form, None, form[1], form[2])


def _named(preparer, form):
    return preparer.fun(form, form[1], form[2], form[3])


def _local(_preparer, form):
    return form


def _do(preparer, form):
    return ("do", preparer.nodes(form[1]))


def _case(preparer, form):
    return ("case", preparer.node(form[1]), preparer.clause_nodes(form[2]))


def _if(preparer, form):
    return ("if", preparer.clause_nodes(form[1]))


def _receive(preparer, form):
    after = (preparer.node(form[2][0]), preparer.nodes(form[2][1])) if form[2] else ()
    return ("receive", preparer.clause_nodes(form[1]), after)


def _try(preparer, form):
    _, body, clauses, caught, after = form
    told, caught_told = preparer.clause_nodes(clauses), preparer.clause_nodes(caught)
    return ("try", preparer.nodes(body), told, caught_told, preparer.nodes(after))


def _catch(preparer, form):
    return ("catch", preparer.node(form[1]))


def _list(preparer, form):
    return ("list", preparer.node(form[1]), tuple([_way(preparer, way) for way in form[2]]))


def _way(preparer, way):
    if way[0] == "if":
        return ("if", preparer.node(way[1]))
    names, _ = names_in([way[1]])
    return ("from", preparer.node(way[2]), way[1], tuple(names))


MAKERS = {
    "tuple": _tuple, "cons": _cons, "map": _map, "put": _put, "op": _op, "built": _built, "call": _call,
    "send": _send, "outer": _outer, "apply": _apply, "match": _match, "both": _left_first, "either": _left_first,
    "fun": _fun, "named": _named, "local": _local, "far": _local, "do": _do, "case": _case, "if": _if,
    "receive": _receive, "try": _try, "catch": _catch, "list": _list,
}
