"""Ties between processes: how they begin with a child, are made, and are taken back."""

from arrivalmill.keeping import side_with, want_process, want_reference, with_side, with_watch, with_watcher

TIED = (True, 0, 0)


def born(own, parent, how, reference):
    """The keeps of a child, begun "alone", "tied" or "watched" by its parent."""
    want_process(own)
    want_process(parent)
    keeps = (own, False, (), (), ())
    if how == "tied":
        return with_side(keeps, parent, TIED)
    if how == "watched":
        want_reference(reference)
        return with_watcher(keeps, reference, parent)
    return keeps


def begun(keeps, child, how, reference):
    """The keeps of the parent behind the beginning of a child."""
    want_process(child)
    if how == "tied":
        return with_side(keeps, child, TIED)
    if how == "watched":
        want_reference(reference)
        return with_watch(keeps, reference, child, child)
    return keeps


def tie(keeps, other):
    """The keeps behind a tie to another process, and what is sent."""
    want_process(other)
    tied, sent, seen = side_with(keeps, other)
    if other == keeps[0] or tied:
        return (keeps, ())
    return (with_side(keeps, other, (True, sent, seen)), ((other, ("tie", seen)),))


def untie(keeps, other):
    """The keeps behind taking back a tie, and what is sent."""
    want_process(other)
    if other == keeps[0]:
        return (keeps, ())
    _, sent, seen = side_with(keeps, other)
    return (with_side(keeps, other, (False, sent + 1, seen)), ((other, ("untie",)),))


def trap(keeps, now):
    """The keeps of a process that traps exits from now on, or does not."""
    own, _, ties, watches, watchers = keeps
    return (own, now, ties, watches, watchers)
