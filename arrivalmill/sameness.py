"""Values that are the same: equal, and True is no 1."""


def is_same(one, other):
    """Whether two values are the same, one of them made of tuples, strings, integers, bools and None alone."""
    return one == other and _bools_stand_alike(one, other)


def _bools_stand_alike(one, other):
    if isinstance(one, tuple) and isinstance(other, tuple):
        for left, right in zip(one, other):
            if not _bools_stand_alike(left, right):
                return False
        return True
    return isinstance(one, bool) == isinstance(other, bool)


def is_among(value, rows):
    """Whether any value is the same as one of these."""
    for row in rows:
        if is_same(row, value):
            return True
    return False
