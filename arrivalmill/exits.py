"""What signals do to a process that lives, what its end sends, and what is answered for one that has ended."""

from arrivalmill.errors import BadSignal, BadTerm
from arrivalmill.keeping import (
    side_with, want_process, watch_by, with_side, with_watcher, without_watch, without_watcher,
)
from arrivalmill.signs import is_count, is_process, is_reference
from arrivalmill.terms import is_term


def acts(traps, own, sender, reason, is_tie):
    """What an exit does that a process takes in."""
    want_process(own)
    want_process(sender)
    if not is_term(reason):
        raise BadTerm(reason)
    if not is_tie and reason == "kill":
        return ("ends", "killed")
    if traps:
        return ("letter", ("tuple", "EXIT", sender, reason))
    if reason == "normal" and (is_tie or sender != own):
        return ("nothing",)
    return ("ends", reason)


def come(keeps, sender, signal):
    """The keeps behind a signal that comes to a process that lives, and what it does there."""
    _want_signal(sender, signal)
    word = signal[0]
    if word == "letter":
        return (keeps, signal)
    if word == "exit":
        return _come_exit(keeps, sender, signal)
    if word == "notice":
        return _come_notice(keeps, signal)
    if word == "watch":
        return (with_watcher(keeps, signal[1], sender), None)
    if word == "unwatch":
        return (without_watcher(keeps, signal[1]), None)
    return (_come_tie(keeps, sender, signal), None)


def _come_tie(keeps, sender, signal):
    """The keeps behind a tie or an untie."""
    _, sent, seen = side_with(keeps, sender)
    if signal[0] == "untie":
        return with_side(keeps, sender, (False, sent, seen + 1))
    return keeps if signal[1] < sent else with_side(keeps, sender, (True, sent, seen))


def _come_exit(keeps, sender, signal):
    _, reason, is_tie, number = signal
    if is_tie:
        tied, sent, seen = side_with(keeps, sender)
        if number < sent or not tied:
            return (keeps, None)
        keeps = with_side(keeps, sender, (False, sent, seen))
    told = acts(keeps[1], keeps[0], sender, reason, is_tie)
    return (keeps, None if told == ("nothing",) else told)


def _come_notice(keeps, signal):
    _, reference, reason = signal
    row = watch_by(keeps, reference)
    if row is None:
        return (keeps, None)
    letter = ("tuple", "DOWN", reference, "process", row[1], reason)
    return (without_watch(keeps, reference), ("letter", letter))


def ended(keeps, reason):
    """What the end of a process sends, for this reason."""
    if not is_term(reason):
        raise BadTerm(reason)
    exits = [(other, ("exit", reason, True, side[2])) for other, side in keeps[2] if side[0]]
    notices = [(watcher, ("notice", reference, reason)) for reference, watcher in keeps[4]]
    return (*exits, *notices)


def clerk(keeps, sender, signal):
    """The keeps of a process that has ended behind a signal that comes to it, and what is answered for it."""
    _want_signal(sender, signal)
    tied, sent, seen = side_with(keeps, sender)
    if signal[0] == "tie" and signal[1] >= sent:
        return (keeps, ((sender, ("exit", "noproc", True, seen)),))
    if signal[0] == "untie":
        return (with_side(keeps, sender, (tied, sent, seen + 1)), ())
    if signal[0] == "watch":
        return (keeps, ((sender, ("notice", signal[1], "noproc")),))
    return (keeps, ())


def _want_signal(sender, signal):
    """BadTerm for what sends no signals, BadSignal for what is none of its."""
    is_book = isinstance(sender, str) and sender == "names"
    if not is_book and not is_process(sender):
        raise BadTerm(sender)
    if not is_signal(signal) or (is_book and signal[0] != "notice"):
        raise BadSignal(signal)


def is_signal(value):
    """Whether any value is a signal between processes."""
    if not isinstance(value, tuple) or not value or not isinstance(value[0], str):
        return False
    form = (value[0], len(value))
    if form not in SIGNAL_CHECKS:
        return False
    check = SIGNAL_CHECKS[form]
    return check(value)


def _is_letter(signal):
    return is_term(signal[1])


def _is_tie(signal):
    return is_count(signal[1], 0)


def _is_untie(_signal):
    return True


def _is_exit(signal):
    _, reason, is_tie, number = signal
    if not is_term(reason) or not isinstance(is_tie, bool) or not is_count(number, 0):
        return False
    return is_tie or number == 0


def _is_watch(signal):
    return is_reference(signal[1])


def _is_notice(signal):
    return is_reference(signal[1]) and is_term(signal[2])


SIGNAL_CHECKS = {
    ("letter", 2): _is_letter, ("tie", 2): _is_tie, ("untie", 1): _is_untie, ("exit", 4): _is_exit,
    ("watch", 2): _is_watch, ("unwatch", 2): _is_watch, ("notice", 3): _is_notice,
}
