"""Looks through modules, ahead of any run, for names and calls that cannot stand as they do."""

from arrivalmill.walking import Walk

WRONG = ("unbound", "unsafe", "undefined")


def look_over(module):
    """The rows (function, number, word, name) of all that is to be told of a module."""
    rows = []
    for name, many, clauses in module.forms[3]:
        rows.extend([(name, many, word, other) for word, other in _told_of(module, clauses)])
    return tuple(sorted(rows))


def _told_of(module, clauses):
    """What is to be told of a function: (word, name), each once."""
    walk = Walk()
    for clause in clauses:
        walk.clause(clause, {})
    for name, many in walk.calls:
        if (name, many) not in module:
            walk.tell("undefined", name + "/" + str(many))
    for number, name in enumerate(walk.bindings):
        if not walk.used[number] and name[0] != "_":
            walk.tell("unused", name)
    return list(walk.told)


def is_sound(module):
    """Whether nothing wrong is told of a module; what is hidden or unused is not wrong."""
    for row in look_over(module):
        if row[2] in WRONG:
            return False
    return True
