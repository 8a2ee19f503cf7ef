"""Processes that go by rows of code: on to their next look, through their boxes, and behind their looks."""

from arrivalmill.callrows import CALLS, answered_full
from arrivalmill.deeds import deed_done, received
from arrivalmill.doers import look_there, look_untaken
from arrivalmill.flows import led_to
from arrivalmill.moves import MOVES, outcome_set
from arrivalmill.moving import Deck, Run
from arrivalmill.shapes import is_kind


def went_on(run):
    """Goes on row by row until it stops: why it does."""
    while True:
        if run.at >= len(run.deck.ops):
            run.astray()
        op = run.deck.ops[run.at]
        work = CALLS[op.word] if op.word in CALLS else MOVES[op.word]
        stop = work(run, op)
        if stop is not None:
            return stop


class CodeMind:
    """How a doer goes by rows of code. Its methods are those of FormMind, and taking."""

    def __init__(self, codes, store, doer):
        decks = {}
        for code in codes:
            decks[code.name] = Deck(code, store)
        self.book = {(name, 1): decks[name] for name in decks}
        self.run = Run(store, decks, doer)
        store.follow(self.run)
        self.doer = doer
        doer.mind = self

    def begin(self, start):
        """Stands ahead of the first full call."""
        doer = self.doer
        doer.state = ("asks", "full", start)
        doer.there = ("look",)

    def stop_at(self, stop):
        """Notes why the run has stopped, and which look is there."""
        doer = self.doer
        doer.state = stop
        doer.waiting = None
        if stop == ("look",):
            self.go_through_box()
        else:
            doer.there = look_there(doer)

    def go_through_box(self):
        """Tries all letters of the box; behind them the wait of the look is come to, or what stands in its place."""
        doer, run = self.doer, self.run
        run.xs = {}
        for number, letter in enumerate(doer.box):
            doer.there = self.taking(letter, number)
            if doer.there is not None:
                doer.state = ("asks", "receive", (None, None))
                return
        look = run.at
        run.jump(run.deck.ops[look])
        wait = led_to(run.deck, run.deck.ops[look].labels[0])
        if wait is None or run.deck.ops[wait].word != "wait" or led_to(run.deck, run.deck.ops[wait].labels[0]) != look:
            self.stop_at(went_on(run))
            return
        run.at = wait
        self.wait_at(run.deck.ops[wait])

    def wait_at(self, op):
        """Stands at a wait, of whose look all letters were passed by."""
        time = self.run.term(op.reads[0]) if op.reads else "infinity"
        if not isinstance(time, int) and time != "infinity":
            self.stop_at(self.run.fall("error", "timeout_value") or went_on(self.run))
            return
        time = None if time == "infinity" else time
        doer = self.doer
        doer.state = ("asks", "receive", (None, time))
        doer.there = look_untaken(time)

    def do(self, answer):
        """Does the look that is there, but an end, and goes on: the reason if this ends it, otherwise None."""
        doer, run = self.doer, self.run
        if doer.there[0] != "look":
            there = doer.there
            received(doer)
            if there[0] == "took":
                run.follow(there[2])
            if there[0] != "wait":
                run.at += 1
                self.stop_at(went_on(run))
            return None
        outcome, _ = deed_done(doer, answer)
        if is_kind(outcome, "ends"):
            return outcome[1]
        stop = outcome_set(run, outcome) if doer.state[1] != "full" else answered_full(run, doer.state[2], answer)
        self.stop_at(stop or went_on(run))
        return None

    def taking(self, letter, number):
        """The look that takes a letter, as doers tell it; None if it is passed by."""
        run = self.run
        twin = run.twin()
        op = run.deck.ops[run.at]
        if op.word == "wait":
            twin.at = led_to(run.deck, op.labels[0])
        twin.hand = True
        twin.at += 1
        twin.set_arguments([run.store.lay(letter)])
        run.store.follow(twin)
        stop = went_on(twin)
        run.store.leave(twin)
        if stop not in (("took",), ("passed",)):
            twin.astray()
        return ("took", number, twin, None) if stop == ("took",) else None
