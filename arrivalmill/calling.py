"""What nodes come to whose parts are all worked out: what is built of them, and calls."""

from arrivalmill.asking import look_word, sends_to
from arrivalmill.functions import performed
from arrivalmill.holding import first_taken, names_behind, names_without
from arrivalmill.operators import operated
from arrivalmill.outcomes import failing, failing_with
from arrivalmill.reckoning import chart_of, guard_lets
from arrivalmill.shapes import has_key, is_kind, is_list, with_pair, with_parts
from arrivalmill.steps import body_state, fallen, state_of


def ended_parts(life, node, terms, scope, stack):
    """The state behind the parts of a node."""
    if node[0] in MADE:
        make = MADE[node[0]]
        return state_of(make(node, terms), scope, stack)
    call = CALLS[node[0]]
    return call(life, node, terms, scope, stack)


def _tuple(_node, terms):
    return ("tuple", *terms)


def _cons(_node, terms):
    return with_parts(terms[:-1], terms[-1])


def _map(_node, terms):
    return chart_of(terms)


def _put(node, terms):
    chart = terms[0]
    if not is_kind(chart, "map"):
        return failing_with("badmap", chart)
    for sign, key, worth in zip(node[2], terms[1::2], terms[2::2]):
        if sign == ":=" and not has_key(chart, key):
            return failing_with("badkey", key)
        chart = with_pair(chart, key, worth)
    return chart


def _op(node, terms):
    return operated(node[2], terms)


def _pure(node, terms):
    return performed(node[2], terms)


MADE = {"tuple": _tuple, "cons": _cons, "map": _map, "put": _put, "op": _op, "pure": _pure}


def _ask(_life, node, terms, scope, stack):
    word = look_word(node[2], terms)
    if word is None:
        return fallen(failing("badarg"), stack)
    return ("asks", word, (node[2], *terms), scope, stack)


def _send(_life, _node, terms, scope, stack):
    if not sends_to(terms[0]):
        return fallen(failing("badarg"), stack)
    return ("asks", "send", terms, scope, stack)


def _make_ref(life, _node, _terms, scope, stack):
    life.made += 1
    return ("came", ("ref", life.own[1], life.made), scope, stack)


def _apply(life, _node, terms, scope, stack):
    if not is_list(terms[-1]):
        return fallen(failing("badarg"), stack)
    if len(terms) == 2:
        return call_term(life, terms[0], terms[1][1:], scope, stack)
    return _full_call(terms[0], terms[1], terms[2][1:], scope, stack)


def _outer(_life, _node, terms, scope, stack):
    return _full_call(terms[0], terms[1], terms[2:], scope, stack)


def _full_call(module, name, terms, scope, stack):
    if not isinstance(module, str) or not isinstance(name, str):
        return fallen(failing("badarg"), stack)
    return ("asks", "full", (module, name, terms), scope, stack)


def _called(life, _node, terms, scope, stack):
    return call_term(life, terms[0], terms[1:], scope, stack)


def _call_own(life, node, terms, scope, stack):
    module, edition, _, _ = scope[1]
    return call_function(life, module, edition, node[2], terms, scope, stack)


CALLS = {
    "ask": _ask, "send": _send, "make_ref": _make_ref, "apply": _apply, "outer": _outer, "called": _called,
    "call": _call_own,
}


def call_function(life, module, edition, name, terms, scope, stack):
    """The state that a call of a function of an edition begins with."""
    clauses = life.book[(module, edition)].functions[(name, len(terms))]
    found = first_taken(clauses, terms, {}, life.own)
    return _entered(found, (module, edition, name, len(terms)), scope, stack)


def _entered(found, here, scope, stack):
    if found is None:
        return fallen(failing("function_clause"), stack)
    body, names = found
    return body_state(body, (names, here), _with_way_back(scope, stack))


def _with_way_back(scope, stack):
    """The stack under a call: one in last place leaves no way back to where it stands."""
    if stack is None or stack[0][0] == "back":
        return stack
    return (("back", scope), stack)


def call_term(life, term, terms, scope, stack):
    """The state that a call of any term begins with."""
    if not is_kind(term, "fun") or not _is_there(life, term):
        return fallen(failing_with("badfun", term), stack)
    _, module, name, size, edition, _ = term
    if size != len(terms):
        return fallen(failing_with("badarity", ("tuple", term, ("list", *terms))), stack)
    if edition == 0:
        return _full_call(module, name, terms, scope, stack)
    if isinstance(name, str):
        return call_function(life, module, edition, name, terms, scope, stack)
    return _entered(_taken_by_fun(life, term, terms), (module, edition, name, size), scope, stack)


def _is_there(life, term):
    """Whether what a function stands for is there; one of edition 0 is looked for when it is called."""
    _, module, name, size, edition, _ = term
    if edition == 0:
        return True
    if (module, edition) not in life.book:
        return False
    program = life.book[(module, edition)]
    return (name, size) in program.functions if isinstance(name, str) else name in program.funs


def _taken_by_fun(life, term, terms):
    """The first clause of a fun that takes terms, whose heads see nothing of what is bound ahead but as keys."""
    _, module, number, _, edition, held = term
    clauses, held_names, own = life.book[(module, edition)].funs[number]
    names = dict(zip(held_names, held))
    if own is not None:
        names[own] = term
    for patterns, guard, body, hidden in clauses:
        found = names_behind(patterns, terms, names_without(names, hidden), names)
        if found is not None and guard_lets(guard, found, life.own):
            return body, found
    return None
