"""Watches: how they are set, and taken back."""

from arrivalmill.errors import BadTerm
from arrivalmill.keeping import want_process, want_reference, watch_by, with_watch, without_watch
from arrivalmill.signs import is_atom, is_process


def watch(keeps, reference, what, to):
    """The keeps behind a new watch of what, a process or a name that to has, and what is sent."""
    want_reference(reference)
    if not is_process(what) and not is_atom(what):
        raise BadTerm(what)
    if to is not None:
        want_process(to)
    if to == keeps[0]:
        return (keeps, ())
    behind = with_watch(keeps, reference, what, to)
    return (behind, () if to is None else ((to, ("watch", reference)),))


def unwatch(keeps, reference):
    """The keeps without this watch, and what is sent."""
    want_reference(reference)
    row = watch_by(keeps, reference)
    if row is None:
        return (keeps, ())
    to = row[2]
    return (without_watch(keeps, reference), () if to is None else ((to, ("unwatch", reference)),))
