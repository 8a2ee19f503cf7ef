"""Deeds: what a doer does by the look that is there, but its end, and what it asks the books by it."""

from arrivalmill.boxes import flushed_letters
from arrivalmill.exits import acts
from arrivalmill.outcomes import failing, truth
from arrivalmill.running import Life, answered_full
from arrivalmill.shapes import is_kind
from arrivalmill.steps import body_state, state_of
from arrivalmill.ties import begun, tie, trap, untie
from arrivalmill.watches import unwatch, watch

BEGINNINGS = {"spawn": "alone", "spawn_link": "tied", "spawn_monitor": "watched"}
BOOKS = {
    "give": "names", "free": "names", "who": "names", "clock": "clock", "cancel": "clock", "timer": "clock",
    "full": "code", "load": "code", "purge": "code", "soft": "code", "delete": "code",
}


def book_asked(doer):
    """The word of the book that the look which is there, but an end, asks; None if it asks none."""
    word = doer.there[0]
    if word == "wait":
        return "clock"
    if word != "look":
        return None
    word, parts = doer.state[1], doer.state[2]
    if word == "send":
        return "names" if isinstance(parts[0], str) else None
    if word == "watch":
        return "names" if isinstance(parts[2], str) else None
    return BOOKS.get(word)


def is_answered(doer):
    """Whether a book tells something by the look that is there."""
    return book_asked(doer) is not None and doer.there[0] == "look" and doer.state[1] != "timer"


def look_done(doer, answer, book):
    """Does the look that is there, but an end, with the answer of the book that it asks.

    Returned are what it sends, and the reason if this ends the doer, otherwise None: then it is to go on.
    """
    if doer.there[0] != "look":
        doer.state = _behind_receive(doer)
        received(doer)
        return ((), None)
    outcome, sent = deed_done(doer, answer)
    _, word, _, scope, stack = doer.state
    if word == "full":
        doer.state = answered_full(Life(doer.path, book), doer.state, answer)
        return ((), None)
    if is_kind(outcome, "ends"):
        return (sent, outcome[1])
    doer.state = state_of(outcome, scope, stack)
    return (sent, None)


def deed_done(doer, answer):
    """Does the look that a doer's state asks for: what it comes to, None for a full call, and what it sends."""
    if is_answered(doer):
        doer.answers = (*doer.answers, answer)
    word, parts = doer.state[1], doer.state[2]
    if word == "full":
        doer.story = (*doer.story, ("full", parts[0], parts[1], len(parts[2]), answer))
        return (None, ())
    do = DEEDS[word]
    look, outcome, sent = do(doer, parts, answer)
    doer.story = (*doer.story, look)
    return (outcome, sent)


def received(doer):
    """Does the look of a receive that is there, but for what stands behind it."""
    word = doer.there[0]
    if word == "took":
        number = doer.there[1]
        doer.story = (*doer.story, ("receive", doer.box[number]))
        doer.box = doer.box[:number] + doer.box[number + 1:]
    else:
        doer.story = (*doer.story, doer.there)
    if word == "wait":
        doer.there = None
        doer.waiting = doer.waits
        doer.waits += 1


def _behind_receive(doer):
    """The state behind the look of a receive that is there."""
    _, _, parts, scope, stack = doer.state
    if doer.there[0] == "took":
        _, _, body, names = doer.there
        return body_state(body, (names, scope[1]), stack)
    return doer.state if doer.there[0] == "wait" else body_state(parts[2], parts[3], stack)


def _new_reference(doer):
    doer.made += 1
    return ("ref", doer.path, doer.made)


def _send(doer, parts, answer):
    to, term = parts
    look = ("send", to, term)
    if isinstance(to, str):
        look = ("send", to, answer, term)
        to = answer
    if to is None:
        return (look, failing("badarg"), ())
    if to == doer.keeps[0]:
        doer.box = (*doer.box, term)
        return (look, term, ())
    return (look, term, ((to, ("letter", term)),))


def _begin(doer, parts, _answer):
    how = BEGINNINGS[parts[0]]
    start = ("fun", parts[1]) if len(parts) == 2 else ("call", parts[1], parts[2], parts[3][1:])
    doer.children += 1
    child = ("pid", (*doer.path, doer.children))
    reference = _new_reference(doer) if how == "watched" else None
    doer.keeps = begun(doer.keeps, child, how, reference)
    outcome = child if reference is None else ("tuple", child, reference)
    return (("begin", how, child, start, reference), outcome, ())


def _tie(doer, parts, _answer):
    doer.keeps, sent = tie(doer.keeps, parts[1])
    return (("tie", parts[1]), "true", sent)


def _untie(doer, parts, _answer):
    doer.keeps, sent = untie(doer.keeps, parts[1])
    return (("untie", parts[1]), "true", sent)


def _watch(doer, parts, answer):
    what = parts[2]
    to = answer if isinstance(what, str) else what
    reference = _new_reference(doer)
    doer.keeps, sent = watch(doer.keeps, reference, what, to)
    return (("watch", reference, what, to), reference, sent)


def _unwatch(doer, parts, _answer):
    flush = len(parts) == 3
    doer.keeps, sent = unwatch(doer.keeps, parts[1])
    if flush:
        doer.box = flushed_letters(doer.box, parts[1])
    return (("unwatch", parts[1], flush), "true", sent)


def _exit(doer, parts, _answer):
    _, to, reason = parts
    own = doer.keeps[0]
    look = ("exit", to, reason)
    if to != own:
        return (look, "true", ((to, ("exit", reason, False, 0)),))
    told = acts(doer.keeps[1], own, own, reason, False)
    if told[0] == "letter":
        doer.box = (*doer.box, told[1])
    return (look, told if told[0] == "ends" else "true", ())


def _trap(doer, parts, _answer):
    ahead = doer.keeps[1]
    now = parts[2] == "true"
    doer.keeps = trap(doer.keeps, now)
    return (("trap", now, ahead), truth(ahead), ())


def _give(_doer, parts, answer):
    return (("give", parts[1], parts[2], answer), "true" if answer else failing("badarg"), ())


def _free(_doer, parts, answer):
    return (("free", parts[1], answer), "true" if answer else failing("badarg"), ())


def _who(_doer, parts, answer):
    return (("who", parts[1], answer), answer, ())


def _clock(_doer, _parts, answer):
    return (("clock", answer), answer, ())


def _timer(doer, parts, _answer):
    reference = _new_reference(doer)
    kind = "send" if parts[0] == "send_after" else "start"
    return (("timer", reference, kind, *parts[1:]), reference, ())


def _cancel(_doer, parts, answer):
    return (("cancel", parts[1], answer), "false" if answer is None else answer, ())


def _code(doer, parts, answer):
    return ((doer.state[1], *parts[1:], answer), answer, ())


DEEDS = {
    "send": _send, "begin": _begin, "tie": _tie, "untie": _untie, "watch": _watch, "unwatch": _unwatch, "exit": _exit,
    "trap": _trap, "give": _give, "free": _free, "who": _who, "clock": _clock, "timer": _timer, "cancel": _cancel,
    "load": _code, "purge": _code, "soft": _code, "delete": _code,
}
