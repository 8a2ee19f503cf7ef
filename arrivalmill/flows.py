"""Where rows of code go on, what they read, and which tries stand open ahead of them.

An edge of a row is (how, number of the row behind it): how is "next", "label", or "caught" for what a row raises.
"""

from arrivalmill.errors import Tangled

NO_NEXT = (
    "jump", "pick", "last", "outlast", "applast", "spreadlast", "outspreadlast", "return", "raise", "fail", "pass",
)
CALLS = ("call", "outer", "apply", "spread", "outspread")
LAST_CALLS = ("last", "outlast", "applast", "spreadlast", "outspreadlast")
RAISING = ("do", "call", "outer", "apply", "spread", "outspread", "raise", "fail")
# The labels of these are not gone on at.
ELSEWHERE = ("call", "last", "fun", "try")
# How many more x than the arguments that they name these read, or just how many.
MORE_ARGUMENTS = {"call": 0, "last": 0, "outer": 2, "outlast": 2, "apply": 1, "applast": 1}
FIXED_ARGUMENTS = {"spread": 2, "spreadlast": 2, "outspread": 3, "outspreadlast": 3, "return": 1}


def has_next(op):
    """Whether the row behind this one may come next."""
    return op.word not in NO_NEXT and (op.word != "wait" or len(op.reads) > 0)


def can_raise(op):
    """Whether what this row raises goes on at the innermost try."""
    return op.word in RAISING or (op.word == "wait" and len(op.reads) > 0)


def edges(code, number, handler):
    """All edges of a row; handler is the label of the innermost try that is open, None without one."""
    op = code.ops[number]
    found = []
    if has_next(op) and number + 1 < len(code.ops):
        found.append(("next", number + 1))
    if op.word not in ELSEWHERE:
        found.extend([("label", code.places[label]) for label in op.labels])
    if handler is not None and can_raise(op):
        found.append(("caught", code.places[handler]))
    return found


def argument_count(op):
    """How many of the first x a row reads beside its sources."""
    if op.word in MORE_ARGUMENTS:
        return op.more[0] + MORE_ARGUMENTS[op.word]
    return FIXED_ARGUMENTS.get(op.word, 0)


def registers_read(op):
    """All registers that a row reads, as pairs of letter and number."""
    return [*[("x", number) for number in range(argument_count(op))], *[one for one in op.reads if one[0] != "c"]]


def beginnings(code):
    """The rows at which functions begin: ascending pairs of (number, how many x are set there)."""
    found = {(code.places[label], many): True for _, many, label in code.entries}
    for op in code.ops:
        if op.word == "fun":
            found[(code.places[op.labels[0]], op.more[1] + len(op.reads))] = True
        elif op.word == "call" or op.word == "last":
            found[(code.places[op.labels[0]], op.more[0])] = True
    return sorted(list(found))


def tries_behind(op, tries, how):
    """The tries that stand open behind an edge of a row, as (slot, label), the innermost last."""
    if how == "caught":
        return tries[:-1]
    if op.word == "try":
        return (*tries, (op.more[0], op.labels[0]))
    if op.word == "untry":
        places = [at for at, (slot, _) in enumerate(tries) if slot == op.more[0]]
        return tries[:places[-1]] if places else tries
    return tries


def handler_of(tries):
    """The label of the innermost try; None without one."""
    return tries[-1][1] if tries else None


def open_tries(code):
    """For each row the tries that stand open ahead of it; () where no way leads."""
    found = {}
    waiting = []
    for number, _ in beginnings(code):
        _come_to(found, waiting, number, ())
    while waiting:
        number = waiting.pop()
        tries = found[number]
        for how, behind in edges(code, number, handler_of(tries)):
            _come_to(found, waiting, behind, tries_behind(code.ops[number], tries, how))
    return [found.get(number, ()) for number in range(len(code.ops))]


def _come_to(found, waiting, number, tries):
    if number not in found:
        found[number] = tries
        waiting.append(number)
    elif found[number] != tries:
        raise Tangled(number)


def all_edges(code):
    """For each row its edges, with those to the tries that stand open there."""
    return [edges(code, number, handler_of(tries)) for number, tries in enumerate(open_tries(code))]


def led_to(code, label):
    """The row to which a label leads, labels aside; None if there is none."""
    number = code.places[label]
    while number < len(code.ops) and code.ops[number].word == "label":
        number += 1
    return number if number < len(code.ops) else None
