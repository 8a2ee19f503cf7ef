"""What is made of terms, and taken of them: lists with their rests, maps with their keys."""

from arrivalmill.order import sort_key

NIL = ("list",)


def is_kind(term, word):
    """Whether a term is of the kind that this word stands for in its tuple."""
    return isinstance(term, tuple) and term[0] == word


def is_list(term):
    """Whether a term is a proper list."""
    return isinstance(term, tuple) and term[0] == "list"


def has_rest(term, at):
    """Whether a term is a list, or an odd one, with a part at this place, from 1 on."""
    if not isinstance(term, tuple):
        return False
    if term[0] == "list":
        return at < len(term)
    return term[0] == "odd" and at < len(term) - 1


def rest_behind(term, at):
    """The rest of a list, or an odd one, from this place on, from 1 on."""
    if term[0] == "list":
        return ("list",) + term[at:]
    if at == len(term) - 1:
        return term[at]
    return ("odd",) + term[at:]


def with_parts(parts, rest):
    """A term with these parts ahead of it, as a tuple of them."""
    if isinstance(rest, tuple) and (rest[0] == "list" or rest[0] == "odd"):
        return (rest[0],) + tuple(parts) + rest[1:]
    if not parts:
        return rest
    return ("odd", *parts, rest)


def key_place(chart, key):
    """At which place of a map's tuple the pair of this key stands, or would stand."""
    low, high = 1, len(chart)
    wanted = sort_key(key)
    while low < high:
        middle = (low + high) // 2
        if sort_key(chart[middle][0]) < wanted:
            low = middle + 1
        else:
            high = middle
    return low


def has_key(chart, key):
    """Whether a map has this key."""
    at = key_place(chart, key)
    return at < len(chart) and chart[at][0] == key


def with_pair(chart, key, worth):
    """A map with this term at the key."""
    at = key_place(chart, key)
    behind = at + 1 if at < len(chart) and chart[at][0] == key else at
    return (*chart[:at], (key, worth), *chart[behind:])


def without_pair(chart, key):
    """A map without this key."""
    if not has_key(chart, key):
        return chart
    at = key_place(chart, key)
    return chart[:at] + chart[at + 1:]


def worth_at(chart, key):
    """What a map has at a key that it has."""
    return chart[key_place(chart, key)][1]
