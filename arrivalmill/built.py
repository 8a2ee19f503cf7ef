"""Operators and built-in functions, of terms that are handed in."""

from arrivalmill.errors import BadBuilt, BadTerms
from arrivalmill.functions import performed
from arrivalmill.operators import operated
from arrivalmill.outcomes import is_raise
from arrivalmill.tables import GUARD_FUNCTIONS, OTHER_FUNCTIONS, is_sign
from arrivalmill.terms import is_term

# What these come to hangs on the process in which they stand.
OF_PROCESSES = ("self", "make_ref", "apply")


def built(word, terms):
    """What an operator or a built-in function comes to: ("value", term) or ("raise", class, reason)."""
    if not isinstance(word, str) or word in OF_PROCESSES or not (_is_operator(word) or _is_function(word)):
        raise BadBuilt(word)
    if not isinstance(terms, tuple) or not all([is_term(term) for term in terms]) or not _takes(word, len(terms)):
        raise BadTerms(terms)
    outcome = operated(word, terms) if _is_operator(word) else performed(word, terms)
    return outcome if is_raise(outcome) else ("value", outcome)


def _is_operator(word):
    return is_sign(word, 1) or is_sign(word, 2)


def _is_function(word):
    return word in GUARD_FUNCTIONS or word in OTHER_FUNCTIONS


def _takes(word, many):
    if _is_operator(word):
        return is_sign(word, many)
    return many in GUARD_FUNCTIONS.get(word, ()) or many in OTHER_FUNCTIONS.get(word, ())
