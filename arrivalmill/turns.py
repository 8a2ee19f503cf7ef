"""Turns: weavings made by a rule by which processes take turns, and what of them nobody sees."""

from arrivalmill.errors import BadNumber
from arrivalmill.races import is_timer_set, telling_of
from arrivalmill.signs import is_count
from arrivalmill.weavings import steps_next, world_behind
from arrivalmill.world import world_after

MOST_SHARE = 99
MOST_HANDS = 4
MOST_GOES = 400
TICK = ("tick",)


def by_turns(system, share, hands, most):
    """The weaving of a rule of turns, and why it ends: "over" or "most"."""
    _want_number(share, 1, MOST_SHARE)
    _want_number(hands, 1, MOST_HANDS)
    _want_number(most, 0, MOST_GOES)
    turns = Turns(world_behind(system, ()), share, hands, most)
    while turns.why is None:
        turns.do_round()
    return (tuple(turns.steps), turns.why)


def _want_number(value, least, most):
    if not is_count(value, least) or value > most:
        raise BadNumber(value)


class Turns:
    """Processes in a row, the queue, and in hands, which have a path each, None for none; done counts their goes."""

    def __init__(self, world, share, hands, most):
        self.world = world
        self.share = share
        self.most = most
        self.hands = [None for _ in range(hands)]
        self.done = [0 for _ in range(hands)]
        self.queue = []
        self.ready = {}
        self.steps = []
        self.goes = 0
        self.why = None
        self.see()

    def see(self):
        """Puts who begins to be ready behind the row, and lets who has ended leave row and hand."""
        doers = self.world.doers
        ready = {path: True for path in sorted(doers) if doers[path].there is not None}
        self.queue = [path for path in self.queue if path in ready]
        self.hands = [None if path is not None and doers[path].ended else path for path in self.hands]
        self.queue.extend([path for path in ready if path not in self.ready and path not in self.hands])
        self.ready = ready

    def do_step(self, step):
        """Does a step."""
        self.world = world_after(self.world, step)
        self.steps.append(step)
        self.see()

    def let_come(self):
        """Lets all come that is on the way."""
        step = self.first_coming()
        while step is not None:
            self.do_step(step)
            step = self.first_coming()

    def first_coming(self):
        """The first coming that can be done next; None without one."""
        comings = [step for step in steps_next(self.world) if step[0] == "come"]
        return comings[0] if comings else None

    def do_round(self):
        """One round of all hands; or a tick, where no hand has one; or the end."""
        for hand, path in enumerate(list(self.hands)):
            if path is None and self.queue:
                self.hands[hand] = self.queue.pop(0)
                self.done[hand] = 0
        if not [path for path in self.hands if path is not None]:
            self.do_pause()
            return
        for hand in range(len(self.hands)):
            if self.hands[hand] is not None and self.why is None:
                self.do_turn(hand)

    def do_pause(self):
        """Nobody is ready: a tick, if a timer is set."""
        if not is_timer_set(self.world):
            self.why = "over"
        elif self.goes == self.most:
            self.why = "most"
        else:
            self.do_step(TICK)
            self.let_come()

    def do_turn(self, hand):
        """Lets the process of a hand go, and all come that is on the way."""
        if self.goes == self.most:
            self.why = "most"
            return
        path = self.hands[hand]
        self.do_step(("go", path))
        self.goes += 1
        self.done[hand] += 1
        self.let_come()
        if self.hands[hand] is None:
            return
        if path not in self.ready:
            self.hands[hand] = None
        elif self.done[hand] == self.share:
            self.hands[hand] = None
            self.queue.append(path)


def same_stories(system, one, other):
    """Whether all processes have the same stories in two weavings, and if not, what parts them first."""
    stories = {path: looks for path, looks in telling_of(world_behind(system, one))}
    others = {path: looks for path, looks in telling_of(world_behind(system, other))}
    for path in sorted(list({**stories, **others})):
        looks, other_looks = stories.get(path, ()), others.get(path, ())
        if looks != other_looks:
            number = 0
            while looks[number:number + 1] == other_looks[number:number + 1]:
                number += 1
            return ("parts", path, number)
    return ("same",)
