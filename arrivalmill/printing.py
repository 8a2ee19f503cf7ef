"""Forms shown as texts, which are read back to the same forms."""

from arrivalmill.forms import cons_parts
from arrivalmill.signs import atom_text
from arrivalmill.tables import JOINED, LEVELS

# How tight forms hold together, as LEVELS has it; whole expressions, and matches, are looser than all operators.
WHOLE = -2
MATCHED = -1
AHEAD_OF_ONE_LEVEL = 6
PUT_LEVEL = 7
TIGHTEST = 8


def show_module(module):
    """The text of a module's forms."""
    _, name, exports, functions = module.forms
    lines = ["-module(" + atom_text(name) + ").\n"]
    if exports:
        told = ", ".join([atom_text(word) + "/" + str(many) for word, many in exports])
        lines.append("-export([" + told + "]).\n")
    for word, _, clauses in functions:
        lines.append("\n")
        shown = [_function_clause(word, clause) for clause in clauses]
        lines.append(";\n".join(shown) + ".\n")
    return "".join(lines)


def _function_clause(name, clause):
    patterns, guard, body = clause
    lines = [atom_text(name) + _head(patterns) + _guarded(guard) + " ->"]
    shown = ["    " + show_expression(form) for form in body]
    return lines[0] + "\n" + ",\n".join(shown)


def show_expression(form):
    """The text of a whole expression."""
    return _within(form, WHOLE)


def show_pattern(form):
    """The text of a pattern."""
    return _pattern_within(form, WHOLE)


def _within(form, floor):
    """An expression where nothing looser than this level can stand bare."""
    show = SHOWS[form[0]]
    text = show(form)
    return "(" + text + ")" if _level(form) < floor else text


def _level(form):
    word = form[0]
    if word == "op":
        return AHEAD_OF_ONE_LEVEL if len(form[2]) == 1 else LEVELS[form[1]]
    return FORM_LEVELS.get(word, TIGHTEST)


FORM_LEVELS = {"catch": -2, "match": -1, "send": -1, "either": 0, "both": 1, "put": 7}


def _row(forms):
    return ", ".join([show_expression(form) for form in forms])


def _number(form):
    return str(form[1])


def _atom(form):
    return atom_text(form[1])


def _name(form):
    return form[1]


def _bytes(form):
    return "<<" + ", ".join([str(number) for number in form[1]]) + ">>"


def _nil(_):
    return "[]"


def _tuple(form):
    return "{" + _row(form[1]) + "}"


def _cons(form):
    parts, end = cons_parts(form)
    if end == ("nil",):
        return "[" + _row(parts) + "]"
    return "[" + _row(parts) + " | " + show_expression(end) + "]"


def _map(form):
    rows = [show_expression(key) + " => " + show_expression(worth) for key, worth in form[1]]
    return "#{" + ", ".join(rows) + "}"


def _put(form):
    rows = [show_expression(key) + " " + sign + " " + show_expression(worth) for sign, key, worth in form[2]]
    return _within(form[1], PUT_LEVEL) + "#{" + ", ".join(rows) + "}"


def _match(form):
    return _pattern_within(form[1], MATCHED + 1) + " = " + _within(form[2], MATCHED)


def _send(form):
    return _within(form[1], MATCHED + 1) + " ! " + _within(form[2], MATCHED)


def _op(form):
    sign, parts = form[1], form[2]
    if len(parts) == 1:
        inner = _within(parts[0], PUT_LEVEL)
        return "-" + inner if sign == "-" else sign + " " + inner
    level = LEVELS[sign]
    left = level if level > JOINED else level + 1
    right = level if level == JOINED else level + 1
    return _within(parts[0], left) + " " + sign + " " + _within(parts[1], right)


def _both(form):
    return _within(form[1], LEVELS["andalso"] + 1) + " andalso " + _within(form[2], LEVELS["andalso"])


def _either(form):
    return _within(form[1], LEVELS["orelse"] + 1) + " orelse " + _within(form[2], LEVELS["orelse"])


def _call(form):
    return atom_text(form[1]) + "(" + _row(form[2]) + ")"


def _outer(form):
    return _called(form[1], "atom") + ":" + _called(form[2], "atom") + "(" + _row(form[3]) + ")"


def _apply(form):
    return _called(form[1], "name") + "(" + _row(form[2]) + ")"


def _called(form, word):
    """What is called: bare if it is a name, or has this word."""
    text = show_expression(form)
    return text if form[0] == "name" or form[0] == word else "(" + text + ")"


def _fun(form):
    shown = [_head(clause[0]) + _behind_head(clause) for clause in form[1]]
    return "fun " + "; ".join(shown) + " end"


def _named(form):
    shown = [form[1] + _head(clause[0]) + _behind_head(clause) for clause in form[2]]
    return "fun " + "; ".join(shown) + " end"


def _local(form):
    return "fun " + atom_text(form[1]) + "/" + str(form[2])


def _far(form):
    return "fun " + atom_text(form[1]) + ":" + atom_text(form[2]) + "/" + str(form[3])


def _do(form):
    return "begin " + _row(form[1]) + " end"


def _case(form):
    return "case " + show_expression(form[1]) + " of " + _clauses(form[2]) + " end"


def _if(form):
    shown = [_guard(guard) + " -> " + _row(body) for _, guard, body in form[1]]
    return "if " + "; ".join(shown) + " end"


def _receive(form):
    text = "receive "
    if form[1]:
        text += _clauses(form[1]) + " "
    if form[2]:
        text += "after " + show_expression(form[2][0]) + " -> " + _row(form[2][1]) + " "
    return text + "end"


def _try(form):
    _, body, clauses, caught, after = form
    text = "try " + _row(body)
    if clauses:
        text += " of " + _clauses(clauses)
    if caught:
        text += " catch " + _clauses(caught)
    if after:
        text += " after " + _row(after)
    return text + " end"


def _catch(form):
    return "catch " + show_expression(form[1])


def _list(form):
    ways = [_way(way) for way in form[2]]
    return "[" + show_expression(form[1]) + " || " + ", ".join(ways) + "]"


def _way(way):
    if way[0] == "if":
        return show_expression(way[1])
    return show_pattern(way[1]) + " <- " + show_expression(way[2])


SHOWS = {
    "number": _number, "atom": _atom, "name": _name, "bytes": _bytes, "nil": _nil, "tuple": _tuple, "cons": _cons,
    "map": _map, "put": _put, "match": _match, "send": _send, "op": _op, "both": _both, "either": _either,
    "built": _call, "call": _call, "outer": _outer, "apply": _apply, "fun": _fun, "named": _named, "local": _local,
    "far": _far, "do": _do, "case": _case, "if": _if, "receive": _receive, "try": _try, "catch": _catch,
    "list": _list,
}


def _clauses(clauses):
    """Clauses whose patterns stand bare: of a catch both, parted by a colon."""
    shown = [":".join([show_pattern(pattern) for pattern in clause[0]]) + _behind_head(clause) for clause in clauses]
    return "; ".join(shown)


def _behind_head(clause):
    return _guarded(clause[1]) + " -> " + _row(clause[2])


def _head(patterns):
    return "(" + _patterns(patterns) + ")"


def _guarded(guard):
    return " when " + _guard(guard) if guard else ""


def _guard(guard):
    return "; ".join([_row(tests) for tests in guard])


def _patterns(patterns):
    return ", ".join([show_pattern(pattern) for pattern in patterns])


def _pattern_within(form, floor):
    """A pattern where nothing looser than this level can stand bare."""
    if form[0] in PATTERN_SHOWS:
        show = PATTERN_SHOWS[form[0]]
    else:
        show = SHOWS[form[0]]
    text = show(form)
    return "(" + text + ")" if form[0] == "alias" and MATCHED < floor else text


def _any(_):
    return "_"


def _tuple_pattern(form):
    return "{" + _patterns(form[1]) + "}"


def _cons_pattern(form):
    parts, end = cons_parts(form)
    if end == ("nil",):
        return "[" + _patterns(parts) + "]"
    return "[" + _patterns(parts) + " | " + show_pattern(end) + "]"


def _map_pattern(form):
    rows = [show_pattern(key) + " := " + show_pattern(worth) for key, worth in form[1]]
    return "#{" + ", ".join(rows) + "}"


def _alias(form):
    return _pattern_within(form[1], MATCHED + 1) + " = " + _pattern_within(form[2], MATCHED)


PATTERN_SHOWS = {
    "any": _any, "tuple": _tuple_pattern, "cons": _cons_pattern, "map": _map_pattern, "alias": _alias,
}
