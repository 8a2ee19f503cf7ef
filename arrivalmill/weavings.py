"""Systems, and the weavings of their steps."""

from arrivalmill.errors import BadModules, BadStart, BadWeaving, NoProcess, Unsound
from arrivalmill.looker import is_sound
from arrivalmill.preparing import program_of
from arrivalmill.reading import Module
from arrivalmill.sameness import is_same
from arrivalmill.signs import is_atom, is_path
from arrivalmill.terms import inner_terms, is_term
from arrivalmill.world import can_do, world_after, world_begun

MOST_MODULES = 6
MOST_TERMS = 9
SENDERS = {"clock": 1, "names": 2}


class System:
    """Modules, and the full call with which a run of them begins."""

    def __init__(self, modules, start):
        if not isinstance(modules, tuple) or not 1 <= len(modules) <= MOST_MODULES:
            raise BadModules(modules)
        if not all([isinstance(module, Module) for module in modules]):
            raise BadModules(modules)
        for number, module in enumerate(modules):
            if not is_sound(module):
                raise Unsound(number)
        if not is_start(start) or [term for term in start[2] if inner_terms(term)]:
            raise BadStart(start)
        self.modules = modules
        self.start = start
        self.texts = _texts_of(modules)
        self.last = ((), [world_begun(self.texts, start)])
        self.told = (None, [])

    def __eq__(self, other):
        return isinstance(other, System) and self.modules == other.modules and self.start == other.start


def _texts_of(modules):
    """The programs of each name, in the sequence of their modules."""
    texts = {}
    for module in modules:
        texts[module.name] = (*texts.get(module.name, ()), program_of(module))
    return texts


def is_start(value):
    """Whether any value is (module, function, arguments), of any terms."""
    if not isinstance(value, tuple) or len(value) != 3 or not is_atom(value[0]) or not is_atom(value[1]):
        return False
    if not isinstance(value[2], tuple) or len(value[2]) > MOST_TERMS:
        return False
    return all([is_term(term) for term in value[2]])


def worlds_along(system, weaving):
    """The worlds ahead of each step of a weaving, and behind it; BadWeaving for what is none."""
    worlds, wrong = _worlds_and_wrong(system, weaving)
    if wrong is not None:
        raise BadWeaving(wrong)
    return worlds


def _worlds_and_wrong(system, weaving):
    """The worlds along a weaving as far as it can be done, and the number of its first wrong step, None without one.

    Who asks of one weaving most often asks next of one that begins alike: so the system keeps the last one's worlds.
    """
    if not isinstance(weaving, tuple):
        return [], -1
    known, worlds = system.last
    number = _steps_alike(known, weaving)
    worlds = worlds[:number + 1]
    while number < len(weaving) and can_do(worlds[number], weaving[number]):
        worlds.append(world_after(worlds[number], weaving[number]))
        number += 1
    system.last = (weaving[:number], worlds)
    return worlds, number if number < len(weaving) else None


def _steps_alike(one, other):
    """How many first steps two tuples share."""
    number = 0
    while number < len(one) and number < len(other) and is_same(one[number], other[number]):
        number += 1
    return number


def is_weaving(system, value):
    """Whether any value is a weaving."""
    return _worlds_and_wrong(system, value)[1] is None


def world_behind(system, weaving):
    """The world behind a weaving; BadWeaving for what is none."""
    return worlds_along(system, weaving)[-1]


def next_steps(system, weaving):
    """All steps that can be done next."""
    return steps_next(world_behind(system, weaving))


def steps_next(world):
    """All steps that can be done next in a world: goes, comes, and the tick."""
    goes = [("go", path) for path in sorted(world.doers) if world.doers[path].there is not None]
    comes = [("come", sender, to) for sender, to in pairs_on_way(world)]
    return (*goes, *comes, ("tick",))


def pairs_on_way(world):
    """The pairs (from, to) with signals on the way, in the sequence of comes."""
    return sorted(list(world.on_way), key=_pair_key)


def _pair_key(pair):
    """Paths come ahead of the clock, that ahead of the name book."""
    sender, to = pair
    if isinstance(sender, str):
        return (SENDERS[sender], (), to)
    return (0, sender, to)


def story(system, weaving, path):
    """The looks that a process has done."""
    return _process(world_behind(system, weaving), path).story


def _process(world, path):
    if not is_path(path) or path not in world.doers:
        raise NoProcess(path)
    return world.doers[path]


def standing(system, weaving):
    """For each process that was begun: (path, word, box)."""
    world = world_behind(system, weaving)
    doers = [world.doers[path] for path in sorted(world.doers)]
    return tuple([(doer.path, _word_of(doer), doer.box) for doer in doers])


def _word_of(doer):
    if doer.ended:
        return "ended"
    return "waits" if doer.there is None else "ready"


def on_way(system, weaving):
    """The signals that are on the way, for each pair of doers: (from, to, signals)."""
    world = world_behind(system, weaving)
    rows = []
    for pair in pairs_on_way(world):
        rows.append((*pair, tuple([signal for signal, _ in world.on_way[pair]])))
    return tuple(rows)


def heard(system, weaving, path):
    """All that a process got from outside: (signals, answers)."""
    doer = _process(world_behind(system, weaving), path)
    return (doer.heard, doer.answers)
