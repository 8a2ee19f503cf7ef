"""Which steps of a weaving hang on which, as told by the marks of their world.

A mark is (whose it is, books asked, the earlier steps that it needs, whether it purges, who was there then).
"""


def hangs_at_once(marks, one, other):
    """Whether a step hangs on an earlier one by no other step."""
    return one in marks[other][2] or shares(marks, one, other)


def shares(marks, one, other):
    """Whether two steps are of one process, or asked the same book."""
    return _shares_process(marks[one], marks[other]) or len(shared_books(marks, one, other)) > 0


def shared_books(marks, one, other):
    """The books that two steps both asked."""
    return [word for word in marks[one][1] if word in marks[other][1]]


def _shares_process(one, other):
    if one[0] is not None and one[0] == other[0]:
        return True
    return one[0] in other[4] or other[0] in one[4]


def hanging_on(marks, one, last):
    """The steps behind one, up to last, that hang on it, however many stand between."""
    found = [one]
    for step in range(one + 1, last + 1):
        if [other for other in found if hangs_at_once(marks, other, step)]:
            found.append(step)
    return found[1:]
