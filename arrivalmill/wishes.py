"""Wishes about whole weavings: which values are some, and whether they come true."""

from arrivalmill.sameness import is_among
from arrivalmill.signs import is_path
from arrivalmill.terms import is_term

DEEPEST = 10
SIZES = {"ends": 3, "waits": 2, "looks": 3, "both": 3, "either": 3, "not": 2}


def is_wish(value):
    """Whether any value is a wish."""
    return _is_wish_within(value, DEEPEST)


def _is_wish_within(value, deepest):
    """Whether any value is a wish of at most so many within one another."""
    if deepest == 0 or not isinstance(value, tuple) or not value or not isinstance(value[0], str):
        return False
    word = value[0]
    if word not in SIZES or len(value) != SIZES[word]:
        return False
    if word in ("both", "either", "not"):
        return all([_is_wish_within(part, deepest - 1) for part in value[1:]])
    if not is_path(value[1]):
        return False
    if word == "ends":
        return is_term(value[2])
    return word == "waits" or isinstance(value[2], tuple)


def comes_true(wish, telling):
    """Whether a wish comes true of a whole weaving with this telling."""
    word = wish[0]
    if word == "both":
        return comes_true(wish[1], telling) and comes_true(wish[2], telling)
    if word == "either":
        return comes_true(wish[1], telling) or comes_true(wish[2], telling)
    if word == "not":
        return not comes_true(wish[1], telling)
    looks = story_in(telling, wish[1])
    if looks is None:
        return False
    if word == "looks":
        return is_among(wish[2], looks)
    if word == "waits":
        return waits(looks)
    return not waits(looks) and looks[-1][1] == wish[2]


def story_in(telling, path):
    """The story of a process; None if it was not begun."""
    for other, looks in telling:
        if other == path:
            return looks
    return None


def waits(looks):
    """Whether a process with this whole story waits."""
    return not looks or looks[-1][0] != "end"
