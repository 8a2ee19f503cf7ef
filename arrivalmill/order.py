"""The order of all terms, as keys that Python sorts alike. What is handed in here are terms."""

# The rank of a list stands ahead of each of its parts, and that of its end behind the last one:
# so Python compares rests as terms, without a key that is as deep as the list is long.
LIST_RANK = 7


def sort_key(term):
    """A tuple that is less than another term's just if this term is less than that one."""
    if isinstance(term, str):
        return (1, term)
    if isinstance(term, tuple):
        make = KEYS[term[0]]
        return make(term)
    return (0, term)


def _reference_key(term):
    return (2, term[1], term[2])


def _function_key(term):
    name = term[2]
    named = 1 if isinstance(name, str) else 0
    held = [sort_key(part) for part in term[5]]
    return (3, term[1], (named, name), term[3], term[4], len(held), *held)


def _process_key(term):
    return (4, term[1])


def _tuple_key(term):
    parts = [sort_key(part) for part in term[1:]]
    return (5, len(parts), *parts)


def _map_key(term):
    keys = [sort_key(key) for key, _ in term[1:]]
    worths = [sort_key(worth) for _, worth in term[1:]]
    return (6, len(keys), *keys, *worths)


def _parts_key(parts):
    key = []
    for part in parts:
        key.append(LIST_RANK)
        key.append(sort_key(part))
    return key


def _list_key(term):
    return (*_parts_key(term[1:]), LIST_RANK)


def _odd_key(term):
    return (*_parts_key(term[1:-1]), *sort_key(term[-1]))


def _bytes_key(term):
    return (8, *term[1:])


KEYS = {
    "ref": _reference_key, "fun": _function_key, "pid": _process_key, "tuple": _tuple_key, "map": _map_key,
    "list": _list_key, "odd": _odd_key, "bytes": _bytes_key,
}


def is_less(one, other):
    """Whether a term stands ahead of another one."""
    if isinstance(one, int) and isinstance(other, int):
        return one < other
    return sort_key(one) < sort_key(other)


def sorted_terms(terms):
    """Terms as a list, ascending, equal ones as often as they come."""
    return sorted(list(terms), key=sort_key)
