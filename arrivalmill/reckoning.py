"""Works out what needs no calls and binds no names: tests, and whatever else is made of such parts alone.

Names come in as a dict of terms; own is the term of the process that works it out.
"""

from arrivalmill.forms import cons_parts
from arrivalmill.functions import performed
from arrivalmill.operators import operated
from arrivalmill.outcomes import failing, failing_with, is_raise
from arrivalmill.shapes import NIL, with_pair, with_parts


def reckoned(form, names, own):
    """The outcome of a form without calls."""
    word = form[0]
    if word == "name":
        return names[form[1]] if form[1] in names else failing("unbound")
    if word == "number" or word == "atom":
        return form[1]
    work = WORKS[word]
    return work(form, names, own)


def _all_reckoned(forms, names, own):
    """The terms of forms as a list; or, as a tuple, what the first of them raises that raises."""
    terms = []
    for form in forms:
        outcome = reckoned(form, names, own)
        if is_raise(outcome):
            return outcome
        terms.append(outcome)
    return terms


def _bytes(form, _names, _own):
    return ("bytes", *form[1])


def _nil(_form, _names, _own):
    return NIL


def _tuple(form, names, own):
    terms = _all_reckoned(form[1], names, own)
    return terms if isinstance(terms, tuple) else ("tuple", *terms)


def _cons(form, names, own):
    parts, end = cons_parts(form)
    terms = _all_reckoned([*parts, end], names, own)
    return terms if isinstance(terms, tuple) else with_parts(terms[:-1], terms[-1])


def _map(form, names, own):
    terms = _all_reckoned([part for row in form[1] for part in row], names, own)
    return terms if isinstance(terms, tuple) else chart_of(terms)


def chart_of(terms):
    """The map of a row of keys, each with its worth behind it; of equal keys the last one counts."""
    chart = ("map",)
    for key, worth in zip(terms[::2], terms[1::2]):
        chart = with_pair(chart, key, worth)
    return chart


def _op(form, names, own):
    terms = _all_reckoned(form[2], names, own)
    return terms if isinstance(terms, tuple) else operated(form[1], terms)


def _built(form, names, own):
    if form[1] == "self":
        return own
    terms = _all_reckoned(form[2], names, own)
    return terms if isinstance(terms, tuple) else performed(form[1], terms)


def _both(form, names, own):
    left = reckoned(form[1], names, own)
    if left == "true":
        return reckoned(form[2], names, own)
    return left_alone(left)


def _either(form, names, own):
    left = reckoned(form[1], names, own)
    if left == "false":
        return reckoned(form[2], names, own)
    return left_alone(left)


def left_alone(left):
    """What andalso, orelse come to if their right side is not worked out."""
    if left == "true" or left == "false" or is_raise(left):
        return left
    return failing_with("badarg", left)


WORKS = {
    "bytes": _bytes, "nil": _nil, "tuple": _tuple, "cons": _cons, "map": _map, "op": _op, "built": _built,
    "both": _both, "either": _either,
}


def guard_lets(guard, names, own):
    """Whether a guard lets."""
    if not guard:
        return True
    for tests in guard:
        if _all_true(tests, names, own):
            return True
    return False


def _all_true(tests, names, own):
    for test in tests:
        if reckoned(test, names, own) != "true":
            return False
    return True
