"""One process alone: what it does, going by its code, the signals that it gets, and the answers of the books."""

from arrivalmill.deeds import is_answered, look_done
from arrivalmill.doers import Doer, go_on, look_ended, signal_came
from arrivalmill.errors import BadAnswers, BadBook, BadPath, BadSignals, BadStart
from arrivalmill.exits import is_signal
from arrivalmill.names import UNDEFINED
from arrivalmill.plain import book_of, is_book
from arrivalmill.running import begun_state
from arrivalmill.sameness import is_same
from arrivalmill.signs import is_count, is_path, is_process
from arrivalmill.terms import is_term
from arrivalmill.weavings import is_start

MOST_LOOKS = 400
PURGED = ("exit", "kill", False, 0)


class FormMind:
    """How a doer goes by forms: its first full call, and on behind each look that it does."""

    def __init__(self, modules, doer):
        self.book = book_of(modules)
        self.doer = doer

    def begin(self, start):
        """Stands ahead of the first full call."""
        doer = self.doer
        doer.state = begun_state(*start)
        go_on(doer, self.book)

    def do(self, answer):
        """Does the look that is there, but an end, and goes on: the reason if this ends it, otherwise None."""
        _, reason = look_done(self.doer, answer, self.book)
        if reason is None and self.doer.there is not None:
            go_on(self.doer, self.book)
        return reason


def alone(modules, path, start, signals, answers):
    """What one process does by itself that begins by this full call: (looks, end)."""
    if not is_book(modules):
        raise BadBook(modules)
    want_life(path, start, signals, answers)
    doer = doer_at(path)
    return lived(doer, FormMind(modules, doer), start, signals, answers)


def want_life(path, start, signals, answers):
    """Raises the error of what no process can be, begin with or get."""
    if not is_path(path):
        raise BadPath(path)
    if not is_start(start):
        raise BadStart(start)
    _want_signals(path, signals)
    if not isinstance(answers, tuple):
        raise BadAnswers(-1)


def doer_at(path):
    """A doer that nobody tied or watched."""
    return Doer(path, (("pid", path), False, (), (), ()))


def lived(doer, mind, start, signals, answers):
    """What a doer does as far as it goes: (looks, end)."""
    mind.begin(start)
    come, end = 0, None
    while end is None:
        come = _deliver(doer, signals, come)
        end = _end_of(doer, answers)
        if end is None:
            _do_look(doer, answers, mind)
    if come < len(signals):
        raise BadSignals(come)
    return (doer.story, end)


def _deliver(doer, signals, number):
    """Lets the signals come that do so ahead of the next look; the number of the first one that has not come."""
    while number < len(signals) and signals[number][2] == len(doer.story) and not doer.ended:
        sender, signal, _ = signals[number]
        reason = signal_came(doer, sender, signal)
        if reason is not None:
            look_ended(doer, reason)
        number += 1
    return number


def _end_of(doer, answers):
    """Why the process goes no farther; None if it does."""
    if doer.ended:
        return ("ended", doer.story[-1][1])
    if len(doer.story) == MOST_LOOKS:
        return ("long",)
    if doer.there is None:
        return ("waits", doer.box)
    if is_answered(doer) and len(doer.answers) == len(answers):
        return ("asks", doer.state[1])
    return None


def _do_look(doer, answers, mind):
    if doer.there[0] == "end":
        look_ended(doer, doer.there[1])
        return
    answer = None
    if is_answered(doer):
        number = len(doer.answers)
        answer = answers[number]
        check = ANSWERS[doer.state[1]]
        if not check(answer, doer.state[2], mind.book):
            raise BadAnswers(number)
    reason = mind.do(answer)
    if reason is not None:
        look_ended(doer, reason)


def _is_holder(value, _parts, _book):
    return value is None or is_process(value)


def _is_done(value, _parts, _book):
    return isinstance(value, bool)


def _is_answer(value, _parts, _book):
    return is_same(UNDEFINED, value) or is_process(value)


def _is_moment(value, _parts, _book):
    return is_count(value, 0)


def _is_remaining(value, _parts, _book):
    return value is None or is_count(value, 1)


def _is_edition(value, parts, book):
    module, name, terms = parts
    if not is_count(value, 0) or value > 1:
        return False
    return value == 0 or ((module, 1) in book and (name, len(terms)) in book[(module, 1)].exports)


def _is_any_term(value, _parts, _book):
    return is_term(value)


ANSWERS = {
    "send": _is_holder, "watch": _is_holder, "give": _is_done, "free": _is_done, "who": _is_answer,
    "clock": _is_moment, "cancel": _is_remaining, "full": _is_edition, "load": _is_any_term, "purge": _is_any_term,
    "soft": _is_any_term, "delete": _is_any_term,
}


def _want_signals(path, value):
    if not isinstance(value, tuple):
        raise BadSignals(-1)
    ahead = 0
    for number, row in enumerate(value):
        if not isinstance(row, tuple) or len(row) != 3 or not is_count(row[2], ahead):
            raise BadSignals(number)
        if not _can_come(path, row[0], row[1]):
            raise BadSignals(number)
        ahead = row[2]


def _can_come(path, sender, signal):
    """Whether any values are a sender and a signal of it that can come to this path."""
    if is_path(sender):
        return sender != path and is_signal(signal)
    if not isinstance(sender, str) or not isinstance(signal, tuple) or not signal:
        return False
    if sender == "clock":
        return _is_due(signal)
    if sender == "names":
        return is_signal(signal) and signal[0] == "notice"
    return sender == "code" and is_same(PURGED, signal)


def _is_due(value):
    """Whether any tuple is a signal of the clock."""
    if len(value) != 2 or not isinstance(value[0], str):
        return False
    if value[0] == "over":
        return is_count(value[1], 0)
    return value[0] == "letter" and is_term(value[1])
