"""Terms: what is one, of which kind, in which order, and what is made of them."""

from arrivalmill.errors import BadMap, BadTerm, BadTerms, NoKey, NoPart
from arrivalmill.order import is_less, sort_key, sorted_terms
from arrivalmill.shapes import has_key, has_rest, is_kind, rest_behind, with_pair, with_parts, without_pair, worth_at
from arrivalmill.signs import is_atom, is_count, is_integer, is_process, is_reference


def is_term(value):
    """Whether any value is a term."""
    if isinstance(value, str):
        return is_atom(value)
    if not isinstance(value, tuple):
        return is_integer(value)
    if not value or not isinstance(value[0], str):
        return False
    if value[0] not in CHECKS:
        return False
    check = CHECKS[value[0]]
    return check(value)


def _are_terms(values):
    for value in values:
        if not is_term(value):
            return False
    return True


def _is_reference(value):
    return is_reference(value)


def _is_process(value):
    return is_process(value)


def _is_function(value):
    if len(value) != 6:
        return False
    _, module, name, size, edition, held = value
    if not is_atom(module) or not is_count(size, 0) or size > 9 or not isinstance(held, tuple):
        return False
    if is_atom(name):
        return is_count(edition, 0) and held == ()
    return is_count(name, 0) and is_count(edition, 1) and _are_terms(held)


def _is_tuple(value):
    return _are_terms(value[1:])


def _is_map(value):
    for pair in value[1:]:
        if not isinstance(pair, tuple) or len(pair) != 2 or not _are_terms(pair):
            return False
    keys = [sort_key(pair[0]) for pair in value[1:]]
    for one, other in zip(keys, keys[1:]):
        if not one < other:
            return False
    return True


def _is_odd(value):
    return len(value) > 2 and _are_terms(value[1:]) and not is_kind(value[-1], "list") and not is_kind(value[-1], "odd")


def _is_bytes(value):
    for number in value[1:]:
        if not is_count(number, 0) or number > 255:
            return False
    return True


CHECKS = {
    "ref": _is_reference, "fun": _is_function, "pid": _is_process, "tuple": _is_tuple, "map": _is_map,
    "list": _is_tuple, "odd": _is_odd, "bytes": _is_bytes,
}

KINDS = {
    "ref": "reference", "fun": "function", "pid": "process", "tuple": "tuple", "map": "map", "list": "list",
    "odd": "list", "bytes": "bytes",
}


def _want_term(value):
    if not is_term(value):
        raise BadTerm(value)


def _want_map(value):
    if not is_term(value) or not is_kind(value, "map"):
        raise BadMap(value)


def kind_of(term):
    """The word of a term's kind."""
    _want_term(term)
    if isinstance(term, str):
        return "atom"
    return KINDS[term[0]] if isinstance(term, tuple) else "integer"


def compare_terms(one, other):
    """-1, 0 or 1: one is less, equal, greater."""
    _want_term(one)
    _want_term(other)
    if one == other:
        return 0
    return -1 if is_less(one, other) else 1


def sort_terms(terms):
    """A tuple of terms, ascending, equal ones as often as they come."""
    if not isinstance(terms, tuple) or not _are_terms(terms):
        raise BadTerms(terms)
    return tuple(sorted_terms(terms))


def prepended(first, rest):
    """A term with a first part ahead of it."""
    _want_term(first)
    _want_term(rest)
    return with_parts((first,), rest)


def rest_of(term):
    """The rest of a list, or an odd one, that has a first part."""
    _want_term(term)
    if not has_rest(term, 1):
        raise NoPart(term)
    return rest_behind(term, 2)


def with_key(chart, key, value):
    """A map with this value at the key."""
    _want_map(chart)
    _want_term(key)
    _want_term(value)
    return with_pair(chart, key, value)


def key_of(chart, key):
    """What a map has at the key."""
    _want_map(chart)
    _want_term(key)
    if not has_key(chart, key):
        raise NoKey(key)
    return worth_at(chart, key)


def without_key(chart, key):
    """A map without the key."""
    _want_map(chart)
    _want_term(key)
    return without_pair(chart, key)


def inner_terms(term):
    """All processes, references and functions in a term, itself too, ascending, none twice."""
    _want_term(term)
    found = []
    _gather(term, found)
    told = []
    for one in sorted_terms(found):
        if not told or told[-1] != one:
            told.append(one)
    return tuple(told)


def _gather(term, found):
    if not isinstance(term, tuple):
        return
    word = term[0]
    if word == "pid" or word == "ref":
        found.append(term)
    elif word == "fun":
        found.append(term)
        _gather_all(term[5], found)
    elif word == "map":
        for pair in term[1:]:
            _gather_all(pair, found)
    elif word != "bytes":
        _gather_all(term[1:], found)


def _gather_all(terms, found):
    for term in terms:
        _gather(term, found)
