"""Words: how many of them terms take on a heap, if each place of them is laid by itself."""

from arrivalmill.errors import BadTerm
from arrivalmill.terms import is_term

# Smalls go from -2 to the power of 59 up to this power less 1.
LEAST_SMALL = -576460752303423488
GREATEST_SMALL = 576460752303423487
FIGURES = 64
BYTES = 8


def flat_words(term):
    """How many words a term takes."""
    if not is_term(term):
        raise BadTerm(term)
    return words_of_term(term)


def words_of_term(term):
    """How many words a value that is a term takes."""
    words = 0
    waiting = [term]
    while waiting:
        one = waiting.pop()
        words += own_words(one)
        waiting.extend(parts_of_term(one))
    return words


def parts_of_term(term):
    """The parts of a term, from the left: of a list all its parts, and an odd end."""
    if not isinstance(term, tuple) or term[0] in ("pid", "ref", "bytes"):
        return []
    if term[0] == "map":
        return [part for pair in term[1:] for part in pair]
    return list(term[5] if term[0] == "fun" else term[1:])


def own_words(term):
    """How many words a term takes without its parts."""
    if isinstance(term, str):
        return 0
    if not isinstance(term, tuple):
        return 0 if LEAST_SMALL <= term <= GREATEST_SMALL else 1 + _upwards(abs(term).bit_length(), FIGURES)
    count = COUNTS[term[0]]
    return count(term)


def _upwards(number, by):
    """A number divided by another one, begun ones counted."""
    return (number + by - 1) // by


def _process(term):
    return 1 + len(term[1])


def _reference(term):
    return 2 + len(term[1])


def _function(term):
    return 2 + len(term[5])


def _tuple(term):
    return len(term)


def _map(term):
    return 2 * len(term) - 1


def _list(term):
    return 2 * len(term) - 2


def _odd(term):
    return 2 * len(term) - 4


def _bytes(term):
    return 1 + _upwards(len(term) - 1, BYTES)


COUNTS = {
    "pid": _process, "ref": _reference, "fun": _function, "tuple": _tuple, "map": _map, "list": _list, "odd": _odd,
    "bytes": _bytes,
}
