"""All runs of a system: what they can tell, and what comes true of some of them, of all, of none."""

from arrivalmill.errors import BadNumber, BadPath, BadWish
from arrivalmill.exploring import all_told, world_told
from arrivalmill.races import telling_of
from arrivalmill.sameness import is_same
from arrivalmill.signs import is_count, is_path
from arrivalmill.wishes import comes_true, is_wish, story_in, waits

MOST_TICKS = 6
MOST_TELLINGS = 300


def _rows_of(system, ticks, most):
    """All unlike tellings, each with a weaving."""
    if not is_count(ticks, 0) or ticks > MOST_TICKS:
        raise BadNumber(ticks)
    if not is_count(most, 1) or most > MOST_TELLINGS:
        raise BadNumber(most)
    return all_told(system, ticks, most)


def _want_wish(wish):
    if not is_wish(wish):
        raise BadWish(wish)


def all_tellings(system, ticks, most):
    """All unlike tellings of whole weavings with at most so many ticks, each with such a weaving."""
    return tuple(_rows_of(system, ticks, most))


def shows_all_tellings(system, ticks, most, value):
    """Whether any value are all tellings, each just once, with right weavings."""
    rows = _rows_of(system, ticks, most)
    if not isinstance(value, tuple) or len(value) != len(rows):
        return False
    wanted = {repr(telling): telling for telling, _ in rows}
    seen = {}
    for row in value:
        if not isinstance(row, tuple) or len(row) != 2:
            return False
        key = repr(row[0])
        if key in seen or key not in wanted or not is_same(wanted[key], row[0]):
            return False
        seen[key] = True
        world = world_told(system, row[1], ticks)
        if world is None or telling_of(world) != row[0]:
            return False
    return True


def can(system, wish, ticks, most):
    """A weaving of which a wish comes true, or that there is none."""
    _want_wish(wish)
    rows = _rows_of(system, ticks, most)
    for telling, weaving in rows:
        if comes_true(wish, telling):
            return ("weaving", weaving)
    return ("never", len(rows))


def shows_can(system, wish, ticks, most, value):
    """Whether any value tells rightly whether a wish can come true."""
    told = can(system, wish, ticks, most)
    if told[0] == "never":
        return is_same(told, value)
    telling = _telling_shown(system, "weaving", value, ticks)
    return telling is not None and comes_true(wish, telling)


def surely(system, wish, ticks, most):
    """That a wish comes true of all whole weavings, or one of which it does not."""
    _want_wish(wish)
    rows = _rows_of(system, ticks, most)
    for telling, weaving in rows:
        if not comes_true(wish, telling):
            return ("not", weaving)
    return ("surely", len(rows))


def shows_surely(system, wish, ticks, most, value):
    """Whether any value tells rightly whether a wish surely comes true."""
    told = surely(system, wish, ticks, most)
    if told[0] == "surely":
        return is_same(told, value)
    telling = _telling_shown(system, "not", value, ticks)
    return telling is not None and not comes_true(wish, telling)


def _telling_shown(system, word, value, ticks):
    """The telling of the weaving in any value that is a pair of this word and a weaving looked at; None otherwise."""
    if not isinstance(value, tuple) or len(value) != 2 or not is_same(word, value[0]):
        return None
    world = world_told(system, value[1], ticks)
    return None if world is None else telling_of(world)


def hanging(system, ticks, most):
    """All paths that wait at the end of some whole weaving."""
    found = {}
    for telling, _ in _rows_of(system, ticks, most):
        for path, looks in telling:
            if waits(looks):
                found[path] = True
    return tuple(sorted(list(found)))


def alike(system, other, path, ticks, most):
    """Whether a process can have the same stories in two systems, or a weaving of one with a story of its own."""
    return _alike_told(_rows_of_both(system, other, path, ticks, most), path)


def _rows_of_both(system, other, path, ticks, most):
    if not is_path(path):
        raise BadPath(path)
    return [_rows_of(system, ticks, most), _rows_of(other, ticks, most)]


def _alike_told(rows, path):
    known = [_stories_of(row, path) for row in rows]
    for number in range(2):
        for telling, weaving in rows[number]:
            if repr(story_in(telling, path)) not in known[1 - number]:
                return ("parts", number, weaving)
    return ("alike", len(known[0]))


def _stories_of(rows, path):
    """Texts of all unlike stories of a process."""
    return {repr(story_in(telling, path)): True for telling, _ in rows}


def shows_alike(system, other, path, ticks, most, value):
    """Whether any value tells rightly whether a process can have the same stories in two systems."""
    rows = _rows_of_both(system, other, path, ticks, most)
    told = _alike_told(rows, path)
    if told[0] == "alike":
        return is_same(told, value)
    if not isinstance(value, tuple) or len(value) != 3 or not is_same("parts", value[0]):
        return False
    number = value[1]
    if not is_count(number, 0) or number > 1:
        return False
    world = world_told(system if number == 0 else other, value[2], ticks)
    if world is None:
        return False
    return repr(story_in(telling_of(world), path)) not in _stories_of(rows[1 - number], path)
