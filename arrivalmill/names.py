"""The name book: which process has which name. Its standing is the ascending tuple of (name, process)."""

from arrivalmill.errors import BadTerm
from arrivalmill.keeping import want_process
from arrivalmill.signs import is_atom

UNDEFINED = "undefined"


def give(book, name, process, lives):
    """The book behind giving a name to a process, and whether that is done."""
    _want_atom(name)
    want_process(process)
    if not lives or name == UNDEFINED:
        return (book, False)
    for held, holder in book:
        if held == name or holder == process:
            return (book, False)
    return (tuple(sorted([*book, (name, process)])), True)


def freed(book, name):
    """The book behind taking a name back, and whether somebody had it."""
    if who(book, name) is None:
        return (book, False)
    return (tuple([row for row in book if row[0] != name]), True)


def who(book, name):
    """The process that has a name; None if nobody has it."""
    _want_atom(name)
    for held, holder in book:
        if held == name:
            return holder
    return None


def left(book, process):
    """The book without the name of a process."""
    want_process(process)
    return tuple([row for row in book if row[1] != process])


def _want_atom(name):
    if not is_atom(name):
        raise BadTerm(name)
