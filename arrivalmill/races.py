"""Races: neighbouring steps whose sequence could be another one, and what then becomes of the run."""

from arrivalmill.errors import Endless, NoRace
from arrivalmill.hangs import hanging_on, shared_books
from arrivalmill.sameness import is_among
from arrivalmill.weavings import steps_next, world_behind, worlds_along
from arrivalmill.world import can_do, world_after

MOST_LOOKS = 400
TICK = ("tick",)


def went_on(system, weaving):
    """The weaving led on by the told rule until it is whole."""
    return _led_on(world_behind(system, weaving), weaving)[0]


def _led_on(world, weaving):
    """A weaving led on until it is whole, and the world behind it; Endless if it comes to too many looks."""
    steps = list(weaving)
    while True:
        if looks_in(world) > MOST_LOOKS:
            raise Endless(MOST_LOOKS)
        step = steps_next(world)[0]
        if step == TICK and not is_timer_set(world):
            return tuple(steps), world
        world = world_after(world, step)
        steps.append(step)


def looks_in(world):
    """How many looks were done in all."""
    return sum([len(world.doers[path].story) for path in world.doers])


def is_timer_set(world):
    """Whether a timer is set: that of a wait as long as its receive is not over."""
    for key, _, _, _ in world.clock.timers:
        if key[0] != "wait" or world.doers[key[1]].waiting == key[2]:
            return True
    return False


def telling_of(world):
    """For each process that was begun (path, story)."""
    return tuple([(path, world.doers[path].story) for path in sorted(world.doers)])


def races(system, weaving):
    """All races of a weaving."""
    return _races_along(weaving, worlds_along(system, weaving))


def _races_along(weaving, worlds):
    found = []
    marks = worlds[-1].marks
    for one, other in _neighbours(marks):
        for word in _race_words(weaving, worlds, marks, one, other):
            found.append((word, one, other))
    return tuple(sorted(found))


def _neighbours(marks):
    """All pairs of steps of which the later one hangs on the other by process or book alone, by no steps between."""
    pairs = []
    last = {}
    reaches = []
    for step, mark in enumerate(marks):
        resources = [mark[0], *mark[1], *mark[4]]
        ahead = {last[word]: True for word in resources if word is not None and word in last}
        for one in ahead:
            if one not in mark[2] and not [other for other in [*ahead, *mark[2]] if reaches[other] & (1 << one)]:
                pairs.append((one, step))
        reach = 0
        for one in [*ahead, *mark[2]]:
            reach = reach | reaches[one] | (1 << one)
        reaches.append(reach)
        for word in resources:
            last[word] = step
    return pairs


def _race_words(weaving, worlds, marks, one, other):
    """As what two neighbours race."""
    early, late = weaving[one], weaving[other]
    words = []
    if early[0] == "come" and late[0] == "come" and early[2] == late[2] and early[1] != late[1]:
        words.append("comes")
    if early[0] == "come" and late == ("go", early[2]) and worlds[one].doers[early[2]].there is not None:
        words.append("late")
    if early[0] == "go" and late[0] == "come" and late[2] == early[1]:
        words.append("early")
    if shared_books(marks, one, other) and marks[one][0] != marks[other][0]:
        words.append("books")
    if _purges(marks[one], marks[other]) or _purges(marks[other], marks[one]):
        words.append("purges")
    return words


def _purges(mark, other):
    """Whether a step does a purge, and another one is of another process."""
    return mark[3] and other[0] is not None and other[0] != mark[0]


def turned_at(system, weaving, race):
    """The weaving turned at a race."""
    worlds = worlds_along(system, weaving)
    _want_race(weaving, worlds, race)
    return _turned(weaving, worlds, race)


def _turned(weaving, worlds, race):
    _, one, other = race
    between = [*_steps_between(weaving, worlds, race), weaving[other]]
    world = _world_behind_all(worlds[one], between)
    last = (weaving[one],) if can_do(world, weaving[one]) else ()
    return (*weaving[:one], *between, *last)


def _want_race(weaving, worlds, race):
    if not is_among(race, _races_along(weaving, worlds)):
        raise NoRace(race)


def _steps_between(weaving, worlds, race):
    """The steps between those of a race that do not hang on the first one."""
    _, one, other = race
    hanging = hanging_on(worlds[-1].marks, one, other)
    return [weaving[step] for step in range(one + 1, other) if step not in hanging]


def _world_behind_all(world, steps):
    for step in steps:
        world = world_after(world, step)
    return world


def race_parts(system, weaving, race):
    """Whether it matters to any process which step of a race comes first, and the two runs that tell."""
    worlds = worlds_along(system, weaving)
    _want_race(weaving, worlds, race)
    between = _steps_between(weaving, worlds, race)
    pair = [weaving[race[1]], weaving[race[2]]]
    ahead = weaving[:race[1]]
    one, told = _led_on(_world_behind_all(worlds[race[1]], [*between, *pair]), (*ahead, *between, *pair))
    turned = _turned(weaving, worlds, race)
    other, other_told = _led_on(world_behind(system, turned), turned)
    path = _parting_path(telling_of(told), telling_of(other_told))
    if path is None:
        return ("same", one, other)
    return ("parts", path, one, other)


def _parting_path(one, other):
    """The first path whose story is not the same, or in one telling alone; None without one."""
    if one == other:
        return None
    stories = {path: looks for path, looks in one}
    others = {path: looks for path, looks in other}
    for path in sorted(list({**stories, **others})):
        if stories.get(path) != others.get(path):
            return path
    return None
