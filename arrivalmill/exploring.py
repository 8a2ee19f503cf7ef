"""All that whole weavings of a system can tell, found by going through its worlds.

Worlds that are alike in all that can matter later are gone through once. And where some step can come first whatever
else may be done ahead of it, no other one is tried there: it leads to the same, done sooner or later.
"""

from arrivalmill.deeds import book_asked
from arrivalmill.doers import is_open
from arrivalmill.errors import Endless, TooMany
from arrivalmill.foresight import ANY, Foresight
from arrivalmill.races import is_timer_set, looks_in, telling_of
from arrivalmill.shapes import is_kind
from arrivalmill.takers import may_fit, taking_patterns
from arrivalmill.terms import inner_terms
from arrivalmill.weavings import is_weaving, pairs_on_way, steps_next, worlds_along
from arrivalmill.world import world_after, world_begun

MOST_LOOKS = 60
TICK = ("tick",)
UNTYING = ("link", "unlink", "monitor", "demonitor", "register")
TYING = ("tie", "untie", "watch", "unwatch", "exit")


class Search:
    """What a search knows: what may still be called, how many ticks may come, what was come to."""

    def __init__(self, system, ticks):
        self.foresight = Foresight(system.modules)
        self.receives = taking_patterns(system.modules)
        self.ticks = ticks
        self.numbers = {}
        self.seen = {}
        self.takes = {}

    def may_call(self, world, path, names):
        """Whether any other process than this one may still call one of these functions."""
        for other in world.doers:
            doer = world.doers[other]
            if other != path and not doer.ended:
                if doer.calls is None:
                    doer.calls = self.foresight.words_of(doer)
                if ANY in doer.calls or [name for name in names if name in doer.calls]:
                    return True
        return False

    def may_matter(self, letter):
        """Whether some receive may take a letter, or somebody may ask who holds what stands in it."""
        text = repr(letter)
        if text not in self.takes:
            is_taken = [pattern for pattern in self.receives if may_fit(pattern, letter)]
            held = [term for term in inner_terms(letter) if is_kind(term, "fun")]
            self.takes[text] = len(is_taken) + len(held) > 0
        return self.takes[text]

    def number_of(self, text):
        """A number for each unlike text."""
        if text not in self.numbers:
            self.numbers[text] = len(self.numbers)
        return self.numbers[text]


def all_told(system, ticks, most):
    """All unlike tellings of whole weavings, each with a weaving: a list of (telling, weaving).

    Who asks this of a system most often asks more of the same: so it keeps what was found last.
    """
    known, rows = system.told
    if known != ticks:
        rows = _search(system, ticks, most)
        system.told = (ticks, rows)
    if len(rows) > most:
        raise TooMany(most)
    return rows


def _search(system, ticks, most):
    search = Search(system, ticks)
    tellings = {}
    row = [(world_begun(system.texts, system.start), None)]
    while row:
        world, way = row.pop()
        if looks_in(world) > MOST_LOOKS:
            raise Endless(MOST_LOOKS)
        steps = steps_to_try(search, world)
        if not steps and not is_timer_set(world):
            key = _telling_key(search, world)
            if key not in tellings:
                tellings[key] = (telling_of(world), _weaving_of(way))
            if len(tellings) > most:
                raise TooMany(most)
        for step in steps:
            behind = world_after(world, step)
            key = _world_key(search, behind)
            if key not in search.seen:
                search.seen[key] = True
                row.append((behind, (step, way)))
    return [tellings[key] for key in tellings]


def world_told(system, value, ticks):
    """The world behind any value that is a whole weaving with at most so many ticks, each while a timer is set.

    None for what is none.
    """
    if not is_weaving(system, value):
        return None
    worlds = worlds_along(system, value)
    for world, step in zip(worlds, value):
        if step == TICK and not is_timer_set(world):
            return None
    last = worlds[-1]
    is_whole = steps_next(last) == (TICK,) and not is_timer_set(last)
    return last if is_whole and last.clock.now <= ticks else None


def _weaving_of(way):
    steps = []
    while way is not None:
        step, way = way
        steps.append(step)
    steps.reverse()
    return tuple(steps)


def _telling_key(search, world):
    return repr([(path, _tale_of(search, world.doers[path])) for path in sorted(world.doers)])


def _world_key(search, world):
    """A text that is the same just for worlds that are alike in all that can matter later."""
    doers = [_doer_number(search, world.doers[path]) for path in sorted(world.doers)]
    ways = [(pair, [signal for signal, _ in world.on_way[pair]]) for pair in pairs_on_way(world)]
    timers = sorted(list(world.clock.timers), key=_receiver_of)
    shelf = world.shelf
    return repr((doers, ways, world.clock.now, timers, world.names, shelf.standing, shelf.came, shelf.gone))


def _receiver_of(timer):
    """Of timers for unlike receivers it does not matter which was set first."""
    return timer[2]


def _tale_of(search, doer):
    """A number for each unlike story; the doer keeps it, as far as its story goes."""
    size, number = doer.tale
    for look in doer.story[size:]:
        number = search.number_of(repr((number, look)))
    doer.tale = (len(doer.story), number)
    return number


def _doer_number(search, doer):
    if doer.code is None:
        there = None if doer.there is None else doer.there[0]
        tale = _tale_of(search, doer)
        box = [letter for letter in doer.box if search.may_matter(letter)]
        kept = (doer.path, tale, box, doer.keeps[1:], doer.ended, doer.waiting, doer.trail)
        doer.code = search.number_of(repr((kept, there)))
    return doer.code


def steps_to_try(search, world):
    """The next steps that have to be tried."""
    steps = [step for step in steps_next(world) if step != TICK]
    for step in steps:
        if _can_be_first(search, world, step):
            return [step]
    if world.clock.now < search.ticks and is_timer_set(world):
        steps.append(TICK)
    return steps


def _can_be_first(search, world, step):
    """Whether a step leads to the same whatever is done ahead of it, and nothing that is done prevents it."""
    if step[0] == "come":
        signal = world.on_way[step[1:]][0][0]
        return world.doers[step[2]].ended or (signal[0] == "letter" and not search.may_matter(signal[1]))
    doer = world.doers[step[1]]
    if _may_be_ended(search, world, doer):
        return False
    word = doer.there[0]
    if word == "took" or word == "over":
        return not _ends_a_wait(search, world, doer) and not is_open(doer)
    if word == "end":
        return _may_end_first(search, world, doer)
    if word != "look" or book_asked(doer) == "names":
        return False
    word = doer.state[1]
    if word == "full":
        return not search.may_call(world, doer.path, ("load", "delete"))
    if word == "send" or word == "exit":
        to, term = doer.state[2][-2:]
        return to != doer.keeps[0] or (word == "send" and not search.may_matter(term))
    if word == "trap":
        return not _may_be_tied(search, world, doer)
    return word in ("begin", "watch")


def _is_tied(doer):
    for _, side in doer.keeps[2]:
        if side[0]:
            return True
    return False


def _has_on_way(world, path, words):
    """Whether such a signal is on the way to a process."""
    for pair in world.on_way:
        if pair[1] == path and [signal for signal, _ in world.on_way[pair] if signal[0] in words]:
            return True
    return False


def _may_be_ended(search, world, doer):
    """Whether something from outside may end a doer ahead of its next look, or ask what it holds."""
    path = doer.path
    if search.may_call(world, path, ("exit", "purge", "soft_purge")) or _has_on_way(world, path, ("exit",)):
        return True
    return not doer.keeps[1] and _may_be_tied(search, world, doer)


def _may_be_tied(search, world, doer):
    """Whether a doer is tied, or others may tie themselves to it."""
    return _is_tied(doer) or _has_on_way(world, doer.path, ("tie",)) or search.may_call(world, doer.path, ("link",))


def _may_end_first(search, world, doer):
    """Whether nobody else can tell whether a doer ends now, or later on."""
    if _is_tied(doer) or [row for row in world.names if row[1] == doer.keeps[0]]:
        return False
    return not _has_on_way(world, doer.path, TYING) and not search.may_call(world, doer.path, UNTYING)


def _ends_a_wait(search, world, doer):
    """Whether the look that is there takes away a wait for which the clock might still tick."""
    if doer.waiting is None or world.clock.now >= search.ticks:
        return False
    key = ("wait", doer.path, doer.waiting)
    return len([row for row in world.clock.timers if row[0] == key]) > 0
