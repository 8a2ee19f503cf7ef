"""Records: what has to be written down of a weaving, and how weavings with one record lead to one another."""

from arrivalmill.errors import NotSame
from arrivalmill.hangs import hangs_at_once
from arrivalmill.signs import is_count
from arrivalmill.weavings import world_behind

BOOK_WORDS = ("names", "code", "clock")


def record(system, weaving):
    """The record of a weaving."""
    return record_of(world_behind(system, weaving))


def record_of(world):
    """The record of the steps that led to a world."""
    doers = [world.doers[path] for path in sorted(world.doers)]
    rows = tuple([(doer.path, len(doer.story), doer.arrivals) for doer in doers])
    return ("record", rows, tuple([world.asked[word] for word in BOOK_WORDS]))


def same_run(system, one, other):
    """Whether two weavings have one record, and if not, what parts them first."""
    return _parted(record(system, one), record(system, other))


def _parted(one, other):
    if one == other:
        return ("same",)
    rows = {path: (looks, arrivals) for path, looks, arrivals in one[1]}
    others = {path: (looks, arrivals) for path, looks, arrivals in other[1]}
    for path in sorted(list({**rows, **others})):
        if path not in rows or path not in others:
            return ("begun", path)
    for path in sorted(rows):
        if rows[path][1] != others[path][1]:
            return ("arrivals", path, _first_unlike(rows[path][1], others[path][1]))
    for path in sorted(rows):
        if rows[path][0] != others[path][0]:
            return ("looks", path)
    for word, row, other_row in zip(BOOK_WORDS, one[2], other[2]):
        if row != other_row:
            return ("book", word, _first_unlike(row, other_row))
    return ("same",)


def _first_unlike(one, other):
    """The first place at which two rows are not the same, or one ends."""
    at = 0
    while at < len(one) and at < len(other) and one[at] == other[at]:
        at += 1
    return at


def led_over(system, one, other):
    """Places at which steps are exchanged with those behind them, one after the other, to lead one to other."""
    marks = _marks_of_same(system, one, other)
    steps = list(range(len(marks)))
    places = []
    for at, wanted in enumerate(_steps_in(one, other)):
        place = steps.index(wanted)
        while place > at:
            place -= 1
            places.append(place)
            steps[place], steps[place + 1] = steps[place + 1], steps[place]
    return tuple(places)


def _marks_of_same(system, one, other):
    """The marks of one; NotSame unless both weavings have one record."""
    world = world_behind(system, one)
    told = _parted(record_of(world), record(system, other))
    if told != ("same",):
        raise NotSame(told)
    return world.marks


def _steps_in(one, other):
    """For each step of other which step of one it is: the first such one, the second .."""
    places = {}
    for number, step in enumerate(one):
        places[step] = (*places.get(step, ()), number)
    seen = {}
    found = []
    for step in other:
        count = seen.get(step, 0)
        found.append(places[step][count])
        seen[step] = count + 1
    return found


def shows_led_over(system, one, other, value):
    """Whether any value are such places."""
    marks = _marks_of_same(system, one, other)
    if not isinstance(value, tuple):
        return False
    steps = list(range(len(one)))
    for place in value:
        if not is_count(place, 0) or place + 1 >= len(steps):
            return False
        ahead, behind = steps[place], steps[place + 1]
        if one[ahead] != one[behind]:
            # Steps that do not hang on one another lead to the same, in whichever sequence they are done.
            if hangs_at_once(marks, ahead, behind):
                return False
            steps[place], steps[place + 1] = behind, ahead
    return tuple([one[number] for number in steps]) == other
