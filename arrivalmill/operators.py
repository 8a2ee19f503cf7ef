"""What operators come to, of as many terms as they take."""

from arrivalmill.order import is_less
from arrivalmill.outcomes import failing, is_truth, truth
from arrivalmill.shapes import is_list, with_parts

MOST_SHIFT = 1000


def operated(sign, terms):
    """The outcome of an operator between two terms, or ahead of one."""
    if len(terms) == 1:
        return _ahead_of_one(sign, terms[0])
    one, other = terms
    if sign in NUMBER_WORKS:
        if not isinstance(one, int) or not isinstance(other, int):
            return failing("badarith")
        count = NUMBER_WORKS[sign]
        return count(one, other)
    if sign in TRUTH_WORKS:
        if not is_truth(one) or not is_truth(other):
            return failing("badarg")
        decide = TRUTH_WORKS[sign]
        return truth(decide(one == "true", other == "true"))
    if sign in ORDER_WORKS:
        compare = ORDER_WORKS[sign]
        return truth(compare(one, other))
    return _joined(one, other) if sign == "++" else _without(one, other)


def _ahead_of_one(sign, term):
    if sign == "not":
        return truth(term == "false") if is_truth(term) else failing("badarg")
    if not isinstance(term, int):
        return failing("badarith")
    return -term if sign == "-" else -term - 1


def _sum(one, other):
    return one + other


def _difference(one, other):
    return one - other


def _product(one, other):
    return one * other


def quotient(one, other):
    """A number divided by another one that is not 0, cut off towards 0."""
    worth = abs(one) // abs(other)
    return worth if (one < 0) == (other < 0) else -worth


def _divided(one, other):
    return failing("badarith") if other == 0 else quotient(one, other)


def _left(one, other):
    return failing("badarith") if other == 0 else one - other * quotient(one, other)


def _bits_of_both(one, other):
    return one & other


def _bits_of_either(one, other):
    return one | other


def _bits_unlike(one, other):
    return one ^ other


def _shifted_up(one, by):
    if not -MOST_SHIFT <= by <= MOST_SHIFT:
        return failing("system_limit")
    return one << by if by >= 0 else one >> -by


def _shifted_down(one, by):
    return _shifted_up(one, -by)


NUMBER_WORKS = {
    "+": _sum, "-": _difference, "*": _product, "div": _divided, "rem": _left, "band": _bits_of_both,
    "bor": _bits_of_either, "bxor": _bits_unlike, "bsl": _shifted_up, "bsr": _shifted_down,
}


def _both(one, other):
    return one and other


def _either(one, other):
    return one or other


def _unlike_truths(one, other):
    return one != other


TRUTH_WORKS = {"and": _both, "or": _either, "xor": _unlike_truths}


def _same(one, other):
    return one == other


def _unlike(one, other):
    return one != other


def _less(one, other):
    return is_less(one, other)


def _at_most(one, other):
    return not is_less(other, one)


def _greater(one, other):
    return is_less(other, one)


def _at_least(one, other):
    return not is_less(one, other)


ORDER_WORKS = {
    "==": _same, "=:=": _same, "/=": _unlike, "=/=": _unlike, "<": _less, "=<": _at_most, ">": _greater,
    ">=": _at_least,
}


def _joined(one, other):
    return with_parts(one[1:], other) if is_list(one) else failing("badarg")


def _without(one, other):
    if not is_list(one) or not is_list(other):
        return failing("badarg")
    parts = list(one[1:])
    for part in other[1:]:
        if part in parts:
            parts.remove(part)
    return ("list", *parts)
