"""What rows do that are no calls. Each goes on by itself, or tells why the run stops: None as long as it does not."""

from arrivalmill.asking import look_word, sends_to
from arrivalmill.functions import performed
from arrivalmill.operators import operated
from arrivalmill.order import is_less
from arrivalmill.outcomes import failing, failing_with, is_raise, is_truth
from arrivalmill.reckoning import chart_of
from arrivalmill.rowforms import is_deed
from arrivalmill.shapes import has_key, is_kind, with_pair
from arrivalmill.tables import is_sign

NIL = ("list",)
CLASSES = ("error", "exit", "throw")


def _label(run, _op):
    run.at += 1


def _jump(run, op):
    run.jump(op)


def _set(run, op, word):
    """Sets the target and goes on with the next row."""
    run.put(op.target, word)
    run.at += 1


def _move(run, op):
    _set(run, op, run.read(op.reads[0]))


def _go_if(run, op, is_so):
    """Goes on with the next row, or at the label."""
    if is_so:
        run.at += 1
    else:
        run.jump(op)


def _test(run, op):
    word = run.read(op.reads[0])
    kind = op.more[0]
    _go_if(run, op, is_truth(word) if kind == "boolean" else run.store.kind(word) == kind)


def _size(run, op):
    word = run.read(op.reads[0])
    _go_if(run, op, run.store.kind(word) == "tuple" and run.store.size(word) == op.more[0])


def _takes(run, op):
    word = run.read(op.reads[0])
    _go_if(run, op, run.store.kind(word) == "fun" and run.store.size(word) == op.more[0])


def _same(run, op):
    _go_if(run, op, run.store.is_same(run.read(op.reads[0]), run.read(op.reads[1])))


def _unlike(run, op):
    _go_if(run, op, not run.store.is_same(run.read(op.reads[0]), run.read(op.reads[1])))


def _less(run, op):
    _go_if(run, op, is_less(run.term(op.reads[0]), run.term(op.reads[1])))


def _at_most(run, op):
    one, other = run.term(op.reads[0]), run.term(op.reads[1])
    _go_if(run, op, not is_less(other, one))


def _pick(run, op):
    word = run.read(op.reads[0])
    label = op.labels[0]
    for number, other in zip(op.more, op.labels[1:]):
        if run.store.is_same(word, run.read(("c", number))):
            label = other
            break
    run.at = run.deck.places[label]


def _part(run, op):
    _set_part(run, op, run.store.part(run.read(op.reads[0]), op.more[0]))


def _head(run, op):
    _set_part(run, op, run.store.head(run.read(op.reads[0])))


def _tail(run, op):
    _set_part(run, op, run.store.tail(run.read(op.reads[0])))


def _set_part(run, op, word):
    if word is None:
        run.astray()
    _set(run, op, word)


def _key(run, op):
    word = run.store.key(run.read(op.reads[0]), run.term(op.reads[1]))
    _want_target(run, op)
    if word is None:
        run.jump(op)
    else:
        _set(run, op, word)


def _room(run, op):
    run.xs = {number: run.xs[number] for number in run.xs if number < op.more[1]}
    run.store.make_room(op.more[0])
    run.at += 1


def _cell(run, op):
    first, rest = [run.read(source) for source in op.reads]
    _set(run, op, run.store.cell(first, rest))


def _tuple(run, op):
    _set(run, op, run.store.tuple_of([run.read(source) for source in op.reads]))


def _done(run, name, terms):
    """The outcome of a function, or operator, that does no look."""
    if name == "map":
        return chart_of(terms)
    if name == "may" or name == "must":
        return _put_to(terms[0], terms[1:], name == "must")
    if name == "self":
        return run.doer.keeps[0]
    if name == "make_ref":
        doer = run.doer
        doer.made += 1
        return ("ref", doer.path, doer.made)
    return operated(name, terms) if is_sign(name, len(terms)) else performed(name, terms)


def _put_to(chart, terms, must_stand):
    if not is_kind(chart, "map"):
        return failing_with("badmap", chart)
    for key, worth in zip(terms[::2], terms[1::2]):
        if must_stand and not has_key(chart, key):
            return failing_with("badkey", key)
        chart = with_pair(chart, key, worth)
    return chart


def _do(run, op):
    name, terms = op.more[0], tuple([run.term(source) for source in op.reads])
    _want_target(run, op)
    if is_deed(name, len(terms)):
        word = ("send" if sends_to(terms[0]) else None) if name == "!" else look_word(name, terms)
        if word is None:
            return run.fall("error", "badarg")
        return ("asks", word, terms if name == "!" else (name, *terms))
    return outcome_set(run, _done(run, name, terms))


def _want_target(run, op):
    """A slot that is not there is missed ahead of all that the row does."""
    if op.target[0] == "y":
        run.want_slot(op.target[1])


def outcome_set(run, outcome):
    """Goes on behind a do with its outcome."""
    if is_raise(outcome):
        return run.fall(outcome[1], outcome[2])
    _set(run, run.deck.ops[run.at], run.store.lay(outcome))
    return None


def _guard(run, op):
    terms = tuple([run.term(source) for source in op.reads])
    _want_target(run, op)
    outcome = _done(run, op.more[0], terms)
    if is_raise(outcome):
        run.jump(op)
    else:
        _set(run, op, run.store.lay(outcome))


def _fun(run, op):
    number, size = op.more
    words = [run.read(source) for source in op.reads]
    _set(run, op, run.store.function(run.deck.name, number, size, words))


def _own(run, op):
    name, size = op.more
    _set(run, op, run.store.lay(("fun", run.deck.name, name, size, 1, ())))


def _frame(run, op):
    run.push_frame(op.more[0])
    run.at += 1


def _unframe(run, _op):
    if run.slots is None or run.has_try_here():
        run.astray()
    run.pop_part()
    run.at += 1


def _clear(run, op):
    for slot in op.more:
        run.put(("y", slot), NIL)
    run.at += 1


def _try(run, op):
    run.open_try(op.more[0], run.deck.places[op.labels[0]])
    run.at += 1


def _untry(run, op):
    run.close_try(op.more[0])
    run.at += 1


def _raise(run, op):
    word, reason = [run.term(source) for source in op.reads]
    if word not in CLASSES:
        run.astray()
    return run.fall(word, reason)


def _fail(run, op):
    outcome = failing_with(op.more[0], run.term(op.reads[0])) if op.reads else failing(op.more[0])
    return run.fall(outcome[1], outcome[2])


def _look(_run, _op):
    return ("look",)


def _take(run, _op):
    if not run.hand:
        run.astray()
    return ("took",)


def _pass(run, _op):
    if not run.hand:
        run.astray()
    return ("passed",)


def _wait(run, _op):
    run.astray()


MOVES = {
    "label": _label, "jump": _jump, "move": _move, "test": _test, "size": _size, "takes": _takes, "same": _same,
    "unlike": _unlike, "less": _less, "atmost": _at_most, "pick": _pick, "part": _part, "head": _head, "tail": _tail,
    "key": _key, "room": _room, "cell": _cell, "tuple": _tuple, "do": _do, "guard": _guard, "fun": _fun, "own": _own,
    "frame": _frame, "unframe": _unframe, "clear": _clear, "try": _try, "untry": _untry, "raise": _raise,
    "fail": _fail, "look": _look, "take": _take, "pass": _pass, "wait": _wait,
}
