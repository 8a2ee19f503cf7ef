"""What built-in functions come to that are worked out of their arguments alone."""

from arrivalmill.order import is_less
from arrivalmill.outcomes import failing, failing_with, truth
from arrivalmill.shapes import has_key, has_rest, is_kind, is_list, rest_behind, without_pair, worth_at
from arrivalmill.signs import FIGURES, WORD_SIGNS, is_atom


def performed(name, terms):
    """The outcome of a built-in function of these terms."""
    if name in KIND_CHECKS and len(terms) == 1:
        check = KIND_CHECKS[name]
        return truth(check(terms[0]))
    work = WORKS[name]
    return work(*terms)


def _is_atom(term):
    return isinstance(term, str)


def _is_boolean(term):
    return term == "true" or term == "false"


def _is_integer(term):
    return isinstance(term, int)


def _is_any_list(term):
    return is_list(term) or is_kind(term, "odd")


def _is_tuple(term):
    return is_kind(term, "tuple")


def _is_map(term):
    return is_kind(term, "map")


def _is_bytes(term):
    return is_kind(term, "bytes")


def _is_process(term):
    return is_kind(term, "pid")


def _is_reference(term):
    return is_kind(term, "ref")


def _is_function(term):
    return is_kind(term, "fun")


KIND_CHECKS = {
    "is_atom": _is_atom, "is_boolean": _is_boolean, "is_integer": _is_integer, "is_number": _is_integer,
    "is_list": _is_any_list, "is_tuple": _is_tuple, "is_map": _is_map, "is_binary": _is_bytes,
    "is_pid": _is_process, "is_reference": _is_reference, "is_function": _is_function,
}


def _is_function_of(term, size):
    if not isinstance(size, int) or size < 0:
        return failing("badarg")
    return truth(_is_function(term) and term[3] == size)


def _abs(number):
    return abs(number) if isinstance(number, int) else failing("badarg")


def _min(one, other):
    return other if is_less(other, one) else one


def _max(one, other):
    return other if is_less(one, other) else one


def _hd(term):
    return term[1] if has_rest(term, 1) else failing("badarg")


def _tl(term):
    return rest_behind(term, 2) if has_rest(term, 1) else failing("badarg")


def _length(term):
    return len(term) - 1 if is_list(term) else failing("badarg")


def _tuple_size(term):
    return len(term) - 1 if is_kind(term, "tuple") else failing("badarg")


def _byte_size(term):
    return len(term) - 1 if is_kind(term, "bytes") else failing("badarg")


def _has_part(number, term):
    return isinstance(number, int) and is_kind(term, "tuple") and 1 <= number < len(term)


def _element(number, term):
    return term[number] if _has_part(number, term) else failing("badarg")


def _setelement(number, term, worth):
    if not _has_part(number, term):
        return failing("badarg")
    return (*term[:number], worth, *term[number + 1:])


def _map_size(chart):
    return len(chart) - 1 if is_kind(chart, "map") else failing_with("badmap", chart)


def _map_to_list(chart):
    if not is_kind(chart, "map"):
        return failing_with("badmap", chart)
    return ("list", *[("tuple", key, worth) for key, worth in chart[1:]])


def _map_remove(key, chart):
    return without_pair(chart, key) if is_kind(chart, "map") else failing_with("badmap", chart)


def _map_get(key, chart):
    if not is_kind(chart, "map"):
        return failing_with("badmap", chart)
    return worth_at(chart, key) if has_key(chart, key) else failing_with("badkey", key)


def _is_map_key(key, chart):
    return truth(has_key(chart, key)) if is_kind(chart, "map") else failing_with("badmap", chart)


def _tuple_to_list(term):
    return ("list", *term[1:]) if is_kind(term, "tuple") else failing("badarg")


def _list_to_tuple(term):
    return ("tuple", *term[1:]) if is_list(term) else failing("badarg")


def _numbers_of(text):
    return ("list", *[ord(sign) for sign in text])


def _signs_of(term, signs):
    """The text of a list of the numbers of some of these signs; None if it is none."""
    if not is_list(term):
        return None
    told = {ord(sign): sign for sign in signs}
    found = []
    for number in term[1:]:
        if not isinstance(number, int) or number not in told:
            return None
        found.append(told[number])
    return "".join(found)


def _integer_to_list(number):
    return _numbers_of(str(number)) if isinstance(number, int) else failing("badarg")


def _list_to_integer(term):
    text = _signs_of(term, FIGURES + "+-")
    if text is None:
        return failing("badarg")
    figures = text[1:] if text.startswith("+") or text.startswith("-") else text
    if not figures.isdigit():
        return failing("badarg")
    return -int(figures) if text.startswith("-") else int(figures)


def _atom_to_list(atom):
    return _numbers_of(atom) if isinstance(atom, str) else failing("badarg")


def _list_to_atom(term):
    text = _signs_of(term, WORD_SIGNS)
    return text if is_atom(text) else failing("badarg")


def _binary_to_list(term):
    return ("list", *term[1:]) if is_kind(term, "bytes") else failing("badarg")


def _list_to_binary(term):
    numbers = []
    if not is_list(term) or not _flattened(term, numbers):
        return failing("badarg")
    return ("bytes", *numbers)


def _flattened(term, numbers):
    """Whether all in a list stands for bytes; these are put to numbers."""
    for part in term[1:]:
        if isinstance(part, int) and 0 <= part < 256:
            numbers.append(part)
        elif is_kind(part, "bytes"):
            numbers.extend(part[1:])
        elif not is_list(part) or not _flattened(part, numbers):
            return False
    return True


def _throw(term):
    return ("raise", "throw", term)


def _error(term):
    return ("raise", "error", term)


def _leave(term):
    return ("raise", "exit", term)


WORKS = {
    "is_function": _is_function_of, "abs": _abs, "min": _min, "max": _max, "hd": _hd, "tl": _tl, "length": _length,
    "tuple_size": _tuple_size, "byte_size": _byte_size, "element": _element, "setelement": _setelement,
    "map_size": _map_size, "map_to_list": _map_to_list, "map_remove": _map_remove, "map_get": _map_get,
    "is_map_key": _is_map_key, "tuple_to_list": _tuple_to_list, "list_to_tuple": _list_to_tuple,
    "integer_to_list": _integer_to_list, "list_to_integer": _list_to_integer, "atom_to_list": _atom_to_list,
    "list_to_atom": _list_to_atom, "binary_to_list": _binary_to_list, "list_to_binary": _list_to_binary,
    "throw": _throw, "error": _error, "exit": _leave,
}
