"""Keeps: what a process keeps for signals, as (own, traps, ties, watches, watchers), and what is changed of it."""

from arrivalmill.errors import BadTerm
from arrivalmill.signs import is_process, is_reference

AT_FIRST = (False, 0, 0)


def want_process(value):
    """Raises BadTerm for what is no term of a process."""
    if not is_process(value):
        raise BadTerm(value)


def want_reference(value):
    """Raises BadTerm for what is no reference."""
    if not is_reference(value):
        raise BadTerm(value)


def side_with(keeps, other):
    """The side with another process: (tied, sent, seen)."""
    for one, side in keeps[2]:
        if one == other:
            return side
    return AT_FIRST


def with_side(keeps, other, side):
    """The keeps with this side; one that is as at first is not told."""
    own, traps, ties, watches, watchers = keeps
    kept = [row for row in ties if row[0] != other]
    if side != AT_FIRST:
        kept.append((other, side))
    return (own, traps, tuple(sorted(kept)), watches, watchers)


def watch_by(keeps, reference):
    """The row (reference, what, to) of a watch; None if there is none."""
    for row in keeps[3]:
        if row[0] == reference:
            return row
    return None


def with_watch(keeps, reference, what, to):
    """The keeps with a watch more."""
    own, traps, ties, _, watchers = keeps
    kept = [*without_watch(keeps, reference)[3], (reference, what, to)]
    return (own, traps, ties, tuple(sorted(kept, key=_reference_of)), watchers)


def without_watch(keeps, reference):
    """The keeps without this watch."""
    own, traps, ties, watches, watchers = keeps
    return (own, traps, ties, tuple([row for row in watches if row[0] != reference]), watchers)


def with_watcher(keeps, reference, watcher):
    """The keeps with a watcher more."""
    own, traps, ties, watches, _ = keeps
    kept = [*without_watcher(keeps, reference)[4], (reference, watcher)]
    return (own, traps, ties, watches, tuple(sorted(kept, key=_reference_of)))


def without_watcher(keeps, reference):
    """The keeps without the watcher by this reference."""
    own, traps, ties, watches, watchers = keeps
    return (own, traps, ties, watches, tuple([row for row in watchers if row[0] != reference]))


def _reference_of(row):
    return row[0]
