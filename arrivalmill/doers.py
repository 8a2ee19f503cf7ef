"""Doers: processes between their looks, with all that has come to them."""

from arrivalmill.exits import come
from arrivalmill.holding import first_taken
from arrivalmill.outcomes import failing_with
from arrivalmill.running import Life, gone_on
from arrivalmill.shapes import NIL


class Doer:
    """A process in a run.

    state is that of its plain steps; there tells the look that is there, None if there is none:
    ("look",) as its state asks for it, ("took", number of the letter, body, names), ("over",), ("wait", time), or
    ("end", reason). waiting is the number of the wait behind which it waits, None if there is none.
    heard are the signals that came as long as it lived, arrivals all of them, as records tell them. tale, code and
    calls are kept for searches: numbers for its story and for all of it, and what it may still call. mind tells how it
    takes letters if it goes by rows of code, None if it goes by forms.
    """

    def __init__(self, path, keeps):
        self.path = path
        self.keeps = keeps
        self.state = None
        self.there = None
        self.waiting = None
        self.box = ()
        self.story = ()
        self.heard = ()
        self.arrivals = ()
        self.answers = ()
        self.made = 0
        self.children = 0
        self.waits = 0
        self.ended = False
        self.begun_by = None
        self.trail = ()
        self.tale = (0, 0)
        self.code = None
        self.calls = None
        self.mind = None


def copy_of(doer):
    """A doer alike, by itself."""
    other = Doer(doer.path, doer.keeps)
    other.state = doer.state
    other.there = doer.there
    other.waiting = doer.waiting
    other.box = doer.box
    other.story = doer.story
    other.heard = doer.heard
    other.arrivals = doer.arrivals
    other.answers = doer.answers
    other.made = doer.made
    other.children = doer.children
    other.waits = doer.waits
    other.ended = doer.ended
    other.begun_by = doer.begun_by
    other.trail = doer.trail
    other.tale = doer.tale
    return other


def go_on(doer, book):
    """Goes on by plain steps up to the next look, and sees whether it is there."""
    life = Life(doer.path, book)
    life.made = doer.made
    doer.state = gone_on(life, doer.state)
    doer.made = life.made
    doer.waiting = None
    doer.there = look_there(doer)


def look_there(doer):
    """The look that is there for a doer that has gone on; None if it waits."""
    state = doer.state
    if state[0] == "done":
        return ("end", "normal")
    if state[0] == "lost":
        return ("end", reason_of(state[1], state[2]))
    if state[1] != "receive":
        return ("look",)
    for number in range(len(doer.box)):
        found = _taking(doer, number)
        if found is not None:
            return found
    return look_untaken(state[2][1])


def look_untaken(time):
    """The look that is there at a receive with this time that takes no letter; None if it waits."""
    if time is None:
        return None
    return ("wait", time) if time > 0 else ("over",)


def reason_of(word, reason):
    """The reason of an end by what nobody caught."""
    if word == "exit":
        return reason
    if word == "throw":
        reason = failing_with("nocatch", reason)[2]
    return ("tuple", reason, NIL)


def _taking(doer, number):
    """The look that takes this letter of the box; None if no clause does."""
    if doer.mind is not None:
        return doer.mind.taking(doer.box[number], number)
    _, _, parts, scope, _ = doer.state
    found = first_taken(parts[0], (doer.box[number],), scope[0], doer.keeps[0])
    return None if found is None else ("took", number, *found)


def is_open(doer):
    """Whether a letter that its clauses take decides what a living doer does next: its receive is not decided."""
    if doer.there is None:
        return True
    return doer.there[0] == "wait" or (doer.there[0] == "over" and doer.waiting is None)


def letter_came(doer, term):
    """Puts a letter to the box."""
    doer.box = (*doer.box, term)
    if is_open(doer):
        found = _taking(doer, len(doer.box) - 1)
        if found is not None:
            doer.there = found


def over_came(doer, number):
    """The time of a wait is over."""
    if doer.waiting == number and doer.there is None:
        doer.there = ("over",)


def signal_came(doer, sender, signal):
    """A signal comes to a doer that lives: the reason if it ends it, otherwise None."""
    if signal[0] == "over":
        over_came(doer, signal[1])
        return None
    if sender == "code":
        return "killed"
    told = signal
    if sender != "clock":
        doer.keeps, told = come(doer.keeps, sender if sender == "names" else ("pid", sender), signal)
    if told is None:
        return None
    if told[0] == "ends":
        return told[1]
    letter_came(doer, told[1])
    return None


def look_ended(doer, reason):
    """The last look of a doer; what it had is gone."""
    doer.story = (*doer.story, ("end", reason))
    doer.there = None
    doer.state = ("gone",)
    doer.waiting = None
    doer.box = ()
    doer.ended = True
