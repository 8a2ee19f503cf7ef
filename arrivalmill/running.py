"""Goes on with a process by plain steps, up to its next look or its end."""

from arrivalmill.calling import call_function, ended_parts
from arrivalmill.holding import first_taken, names_behind
from arrivalmill.lapping import came_to_lap, lapped, list_begun, turned
from arrivalmill.outcomes import failing, failing_with, is_raise
from arrivalmill.reckoning import left_alone, reckoned
from arrivalmill.steps import body_state, fallen, state_of, worked
from arrivalmill.trying import came_to_try, catch_begun, fell, try_begun


class Life:
    """A process beside its places: its own term, the programs by (module, edition), how many references it made."""

    def __init__(self, path, book):
        self.own = ("pid", path)
        self.book = book
        self.made = 0


def begun_state(module, name, terms):
    """The state of a process whose first look is this full call."""
    return ("asks", "full", (module, name, terms), ({}, None), None)


def answered_full(life, state, edition):
    """The state behind a full call that goes to this edition, 0 for none."""
    _, _, (module, name, terms), scope, stack = state
    if edition == 0:
        return fallen(failing("undef"), stack)
    return call_function(life, module, edition, name, terms, scope, stack)


def gone_on(life, state):
    """The state at the next look, or at the end."""
    while state[0] in STEPS:
        step = STEPS[state[0]]
        state = step(life, state)
    return state


def _work(life, state):
    _, node, scope, stack = state
    if node[0] not in WORKS:
        return _parts_from(life, node, (), scope, scope[0], stack)
    work = WORKS[node[0]]
    return work(life, node, scope, stack)


def _came(life, state):
    _, term, scope, stack = state
    if stack is None:
        return ("done", term)
    frame, rest = stack
    word = frame[0]
    if word in FRAMES:
        take = FRAMES[word]
        return take(life, frame, term, scope, rest)
    if word == "way" or word == "found":
        return came_to_lap(frame, term, rest)
    return came_to_try(life, frame, term, scope, rest)


def _fell(life, state):
    return fell(life, state)


def _lap(life, state):
    return lapped(life, state)


def _turn(life, state):
    return turned(life, state)


STEPS = {"work": _work, "came": _came, "fell": _fell, "lap": _lap, "turn": _turn}


def _work_plain(life, node, scope, stack):
    return state_of(reckoned(node[1], scope[0], life.own), scope, stack)


def _parts_from(life, node, done, scope, names, stack):
    """Works out the parts of a node behind those that are done: each sees scope; names holds what they bound."""
    waiting = node[1][len(done):]
    for part in waiting:
        if part[0] != "plain":
            return worked(part, scope, ("parts", node, done, scope, names), stack)
        outcome = reckoned(part[1], scope[0], life.own)
        if is_raise(outcome):
            return fallen(outcome, stack)
        done = (*done, outcome)
    return ended_parts(life, node, done, (names, scope[1]), stack)


def _came_to_parts(life, frame, term, behind, stack):
    _, node, done, scope, names = frame
    if len(behind[0]) > len(scope[0]):
        names = {**names, **behind[0]}
    return _parts_from(life, node, (*done, term), scope, names, stack)


def _came_to_body(_life, frame, _term, scope, stack):
    return body_state(frame[1], scope, stack)


def _came_back(_life, frame, term, _scope, stack):
    return ("came", term, frame[1], stack)


def _work_match(_life, node, scope, stack):
    return worked(node[1], scope, ("match", node[2]), stack)


def _came_to_match(_life, frame, term, scope, stack):
    names, here = scope
    found = names_behind((frame[1],), (term,), names, names)
    if found is None:
        return fallen(failing_with("badmatch", term), stack)
    return ("came", term, (found, here), stack)


def _work_left(_life, node, scope, stack):
    return worked(node[1], scope, ("left", node), stack)


def _came_to_left(_life, frame, term, scope, stack):
    word, _, right = frame[1]
    if term == ("true" if word == "both" else "false"):
        # The frame waits for the right side, which is no last place, and whose names nobody sees.
        return worked(right, scope, ("right", scope), stack)
    return state_of(left_alone(term), scope, stack)


def _work_fun(_life, node, scope, stack):
    _, number, size, held = node
    names, here = scope
    module, edition, _, _ = here
    term = ("fun", module, number, size, edition, tuple([names[name] for name in held]))
    return ("came", term, scope, stack)


def _work_local(_life, node, scope, stack):
    module, edition, _, _ = scope[1]
    return ("came", ("fun", module, node[1], node[2], edition, ()), scope, stack)


def _work_far(_life, node, scope, stack):
    return ("came", ("fun", node[1], node[2], node[3], 0, ()), scope, stack)


def _work_do(_life, node, scope, stack):
    return body_state(node[1], scope, stack)


def _work_case(_life, node, scope, stack):
    return worked(node[1], scope, ("case", node[2]), stack)


def _came_to_case(life, frame, term, scope, stack):
    names, here = scope
    found = first_taken(frame[1], (term,), names, life.own)
    if found is None:
        return fallen(failing_with("case_clause", term), stack)
    return body_state(found[0], (found[1], here), stack)


def _work_if(life, node, scope, stack):
    names, here = scope
    found = first_taken(node[1], (), names, life.own)
    if found is None:
        return fallen(failing("if_clause"), stack)
    return body_state(found[0], (found[1], here), stack)


def _work_receive(_life, node, scope, stack):
    _, clauses, after = node
    if not after:
        return ("asks", "receive", (clauses, None, (), scope), scope, stack)
    return worked(after[0], scope, ("time", clauses, after[1], scope), stack)


def _came_to_time(_life, frame, term, behind, stack):
    """A receive: its clauses see the scope ahead of the time, its after's body the one behind it."""
    _, clauses, body, scope = frame
    if term == "infinity":
        return ("asks", "receive", (clauses, None, body, behind), scope, stack)
    if not isinstance(term, int) or term < 0:
        return fallen(failing("timeout_value"), stack)
    return ("asks", "receive", (clauses, term, body, behind), scope, stack)


def _work_try(_life, node, scope, stack):
    return try_begun(node, scope, stack)


def _work_catch(_life, node, scope, stack):
    return catch_begun(node, scope, stack)


def _work_list(_life, node, scope, stack):
    return list_begun(node, scope, stack)


WORKS = {
    "plain": _work_plain, "match": _work_match, "both": _work_left, "either": _work_left, "fun": _work_fun,
    "local": _work_local, "far": _work_far, "do": _work_do, "case": _work_case, "if": _work_if,
    "receive": _work_receive, "try": _work_try, "catch": _work_catch, "list": _work_list,
}

FRAMES = {
    "parts": _came_to_parts, "body": _came_to_body, "back": _came_back, "right": _came_back, "match": _came_to_match,
    "left": _came_to_left, "case": _came_to_case, "time": _came_to_time,
}
