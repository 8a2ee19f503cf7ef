"""Holds patterns against terms."""

from arrivalmill.reckoning import guard_lets
from arrivalmill.shapes import has_key, has_rest, is_kind, rest_behind, worth_at


def fits(pattern, term, found, ahead):
    """Whether a pattern fits a term under the names in found, to which what it binds is put.

    Keys that are names see those in ahead: what was bound ahead of the whole pattern.
    """
    word = pattern[0]
    if word == "name":
        if pattern[1] in found:
            return found[pattern[1]] == term
        found[pattern[1]] = term
        return True
    if word == "any":
        return True
    if word == "number" or word == "atom":
        return pattern[1] == term
    check = FITS[word]
    return check(pattern, term, found, ahead)


def _fits_bytes(pattern, term, _found, _ahead):
    return is_kind(term, "bytes") and term[1:] == pattern[1]


def _fits_nil(_pattern, term, _found, _ahead):
    return is_kind(term, "list") and len(term) == 1


def _fits_tuple(pattern, term, found, ahead):
    if not is_kind(term, "tuple") or len(term) != len(pattern[1]) + 1:
        return False
    for part, inner in zip(pattern[1], term[1:]):
        if not fits(part, inner, found, ahead):
            return False
    return True


def _fits_cons(pattern, term, found, ahead):
    at = 1
    while pattern[0] == "cons":
        if not has_rest(term, at) or not fits(pattern[1], term[at], found, ahead):
            return False
        pattern = pattern[2]
        at += 1
    # The rest of a long list is not made where nobody looks at it.
    return pattern[0] == "any" or fits(pattern, rest_behind(term, at), found, ahead)


def _fits_map(pattern, term, found, ahead):
    if not is_kind(term, "map"):
        return False
    for key, worth in pattern[1]:
        wanted = ahead.get(key[1]) if key[0] == "name" else key[1]
        if wanted is None or not has_key(term, wanted):
            return False
        if not fits(worth, worth_at(term, wanted), found, ahead):
            return False
    return True


def _fits_alias(pattern, term, found, ahead):
    return fits(pattern[1], term, found, ahead) and fits(pattern[2], term, found, ahead)


FITS = {
    "bytes": _fits_bytes, "nil": _fits_nil, "tuple": _fits_tuple, "cons": _fits_cons, "map": _fits_map,
    "alias": _fits_alias,
}


def names_behind(patterns, terms, names, ahead):
    """The names with all that patterns bind, each against its term; None if they do not fit."""
    found = dict(names)
    for pattern, term in zip(patterns, terms):
        if not fits(pattern, term, found, ahead):
            return None
    return found


def names_without(names, hidden):
    """The names without some of them."""
    if not hidden:
        return names
    return {name: names[name] for name in names if name not in hidden}


def first_taken(clauses, terms, names, own):
    """The first clause that takes terms: (its body, the names behind its patterns); None without one."""
    for patterns, guard, body in clauses:
        found = names_behind(patterns, terms, names, names)
        if found is not None and guard_lets(guard, found, own):
            return body, found
    return None
