"""Names that are bound to terms, as they are handed in: ascending tuples of (name, term)."""

from arrivalmill.errors import BadNames
from arrivalmill.signs import is_name
from arrivalmill.terms import is_term


def dict_of_names(names):
    """Names with their terms as a dict; BadNames unless they are an ascending tuple."""
    if not isinstance(names, tuple) or not all([_is_named(pair) for pair in names]):
        raise BadNames(names)
    for one, other in zip(names, names[1:]):
        if not one[0] < other[0]:
            raise BadNames(names)
    return {name: term for name, term in names}


def _is_named(value):
    return isinstance(value, tuple) and len(value) == 2 and is_name(value[0]) and is_term(value[1])


def row_of_names(found):
    """A dict of names as an ascending tuple."""
    return tuple([(name, found[name]) for name in sorted(found)])
