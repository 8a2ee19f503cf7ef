"""Which letters some receive may take, as far as its patterns tell by themselves."""

from arrivalmill.shapes import has_key, has_rest, is_kind, rest_behind, worth_at


def taking_patterns(modules):
    """The patterns of all receives in modules."""
    found = []
    row = [module.forms for module in modules]
    while row:
        value = row.pop()
        if isinstance(value, tuple):
            if len(value) == 3 and isinstance(value[0], str) and value[0] == "receive" and isinstance(value[1], tuple):
                found.extend([clause[0][0] for clause in value[1]])
            row.extend(list(value))
    return found


def may_fit(pattern, term):
    """Whether a pattern may fit a term, whatever its names hold."""
    word = pattern[0]
    if word == "any" or word == "name":
        return True
    if word == "number" or word == "atom":
        return pattern[1] == term
    check = FITS[word]
    return check(pattern, term)


def _fits_bytes(pattern, term):
    return is_kind(term, "bytes") and term[1:] == pattern[1]


def _fits_nil(_pattern, term):
    return term == ("list",)


def _fits_tuple(pattern, term):
    if not is_kind(term, "tuple") or len(term) != len(pattern[1]) + 1:
        return False
    return all([may_fit(part, inner) for part, inner in zip(pattern[1], term[1:])])


def _fits_cons(pattern, term):
    at = 1
    while pattern[0] == "cons":
        if not has_rest(term, at) or not may_fit(pattern[1], term[at]):
            return False
        pattern = pattern[2]
        at += 1
    return may_fit(pattern, rest_behind(term, at))


def _fits_map(pattern, term):
    if not is_kind(term, "map"):
        return False
    for key, worth in pattern[1]:
        if key[0] != "name" and not (has_key(term, key[1]) and may_fit(worth, worth_at(term, key[1]))):
            return False
    return True


def _fits_alias(pattern, term):
    return may_fit(pattern[1], term) and may_fit(pattern[2], term)


FITS = {
    "bytes": _fits_bytes, "nil": _fits_nil, "tuple": _fits_tuple, "cons": _fits_cons, "map": _fits_map,
    "alias": _fits_alias,
}
