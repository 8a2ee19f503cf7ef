"""Forms: which values are those of patterns, tests and guards, and what stands in them."""

from arrivalmill.signs import is_atom, is_count, is_integer, is_name
from arrivalmill.tables import guards_have, is_sign


def is_of(value, kind, size):
    """Whether any value is a tuple of so many parts that begins with this word."""
    return isinstance(value, tuple) and len(value) == size and isinstance(value[0], str) and value[0] == kind


def cons_parts(form):
    """The parts of a row of conses, and what stands at its end: rows are longer than nested calls can go."""
    parts = []
    while is_of(form, "cons", 3):
        parts.append(form[1])
        form = form[2]
    return parts, form


def consed(parts, end):
    """The row of conses with these parts, and this end."""
    form = end
    for part in reversed(parts):
        form = ("cons", part, form)
    return form


def _is_plain(value):
    """Whether any value is a form that is alike among expressions and patterns, and holds no other one."""
    if is_of(value, "atom", 2):
        return is_atom(value[1])
    if is_of(value, "name", 2):
        return is_name(value[1])
    if not is_of(value, "bytes", 2):
        return is_of(value, "nil", 1)
    if not isinstance(value[1], tuple):
        return False
    return all([is_count(number, 0) and number < 256 for number in value[1]])


def is_pattern(value):
    """Whether any value is the form of a pattern."""
    parts, end = cons_parts(value)
    if parts:
        return all([is_pattern(part) for part in parts]) and is_pattern(end)
    if is_of(value, "number", 2):
        return is_integer(value[1])
    if is_of(value, "tuple", 2):
        return isinstance(value[1], tuple) and all([is_pattern(part) for part in value[1]])
    if is_of(value, "alias", 3):
        return is_pattern(value[1]) and is_pattern(value[2])
    if is_of(value, "map", 2):
        return isinstance(value[1], tuple) and all([_is_row(row) for row in value[1]])
    return is_of(value, "any", 1) or _is_plain(value)


def _is_row(value):
    """Whether any value is a row of a map's pattern."""
    if not isinstance(value, tuple) or len(value) != 2:
        return False
    key, worth = value
    if is_of(key, "number", 2):
        return is_integer(key[1]) and is_pattern(worth)
    return (is_of(key, "atom", 2) or is_of(key, "name", 2)) and _is_plain(key) and is_pattern(worth)


def is_test(value):
    """Whether any value is the form of a test."""
    parts, end = cons_parts(value)
    if parts:
        return _are_tests(tuple(parts)) and is_test(end)
    if is_of(value, "number", 2):
        return is_count(value[1], 0)
    if is_of(value, "tuple", 2):
        return _are_tests(value[1])
    if is_of(value, "map", 2):
        return isinstance(value[1], tuple) and all([_are_tests(row) and len(row) == 2 for row in value[1]])
    if is_of(value, "both", 3) or is_of(value, "either", 3):
        return is_test(value[1]) and is_test(value[2])
    if is_of(value, "op", 3):
        return _are_tests(value[2]) and is_sign(value[1], len(value[2])) and value[1] not in ("++", "--")
    if is_of(value, "built", 3):
        return is_atom(value[1]) and _are_tests(value[2]) and guards_have(value[1], len(value[2]))
    return _is_plain(value)


def _are_tests(values):
    return isinstance(values, tuple) and all([is_test(value) for value in values])


def is_guard(value):
    """Whether any value is a guard: none or more alternatives, each of one test or more."""
    if not isinstance(value, tuple):
        return False
    return all([_are_tests(tests) and len(tests) > 0 for tests in value])


def names_in(patterns):
    """The names that stand in patterns, from the left, as often as they stand: (those held, those that are keys)."""
    names, keys = [], []
    for pattern in patterns:
        _gather_names(pattern, names, keys)
    return names, keys


def _gather_names(pattern, names, keys):
    parts, end = cons_parts(pattern)
    for part in parts:
        _gather_names(part, names, keys)
    if end[0] == "name":
        names.append(end[1])
    elif end[0] == "tuple":
        for part in end[1]:
            _gather_names(part, names, keys)
    elif end[0] == "alias":
        _gather_names(end[1], names, keys)
        _gather_names(end[2], names, keys)
    elif end[0] == "map":
        for key, worth in end[1]:
            if key[0] == "name":
                keys.append(key[1])
            _gather_names(worth, names, keys)
