"""Records judged: whether there is a weaving that has them, and how far one comes along them."""

from arrivalmill.errors import BadRecord, NotRun
from arrivalmill.records import BOOK_WORDS, record_of
from arrivalmill.sameness import is_same
from arrivalmill.signs import is_count, is_path
from arrivalmill.weavings import is_weaving, steps_next, world_behind
from arrivalmill.world import world_after, world_begun

TICK = "tick"


def judged(system, record):
    """A weaving with this record, or how far one comes along it."""
    if not is_record(record):
        raise BadRecord(record)
    return _told(system, record)[0]


def _told(system, record):
    """What is told of a record, and the world to which one comes along it, None if one does not set out."""
    pair = _first_wrong_number(record)
    if pair is not None:
        return pair, None
    plan = Plan(record)
    world = world_begun(system.texts, system.start)
    steps = []
    while True:
        step, behind = _step_along(plan, world)
        if step is None:
            break
        steps.append(step)
        world = behind
    if record_of(world) == record:
        return ("run", tuple(steps)), world
    doers = [world.doers[path] for path in sorted(world.doers)]
    rows = tuple([(doer.path, len(doer.story), len(doer.arrivals)) for doer in doers])
    return ("stops", rows, tuple([len(world.asked[word]) for word in BOOK_WORDS])), world


def shows_judged(system, record, value):
    """Whether any value is what may be told of a record."""
    told = judged(system, record)
    if told[0] != "run":
        return is_same(told, value)
    if not isinstance(value, tuple) or len(value) != 2 or not is_same("run", value[0]):
        return False
    return is_weaving(system, value[1]) and record_of(world_behind(system, value[1])) == record


def stories(system, record):
    """The stories of all processes that were begun in a run with this record."""
    if not is_record(record):
        raise BadRecord(record)
    told, world = _told(system, record)
    if told[0] != "run":
        raise NotRun(told)
    return tuple([(path, world.doers[path].story) for path in sorted(world.doers)])


class Plan:
    """A record to go along: its rows by path, its books by word, and for each row of the code book its cut, if any."""

    def __init__(self, record):
        self.rows = {path: (looks, arrivals) for path, looks, arrivals in record[1]}
        self.books = {word: rows for word, rows in zip(BOOK_WORDS, record[2])}


def _step_along(plan, world):
    """Any next step that is as the record has it, and the world behind it; (None, world) without one."""
    for step in steps_next(world):
        if _may_be_next(plan, world, step):
            behind = world_after(world, step)
            if _is_along(plan, world, behind):
                return step, behind
    return None, world


def _may_be_next(plan, world, step):
    """Whether a step is, by itself, the next one of its process, or of the clock."""
    if step[0] == "tick":
        return plan.books["clock"][len(world.asked["clock"]):][:1] == (TICK,)
    doer = world.doers[step[-1]]
    looks, arrivals = plan.rows[doer.path]
    number, place = len(doer.arrivals), len(doer.story)
    if step[0] == "go":
        return place < looks and (number == len(arrivals) or arrivals[number][2] > place)
    return number < len(arrivals) and arrivals[number][0] == step[1] and arrivals[number][2] == place


def _is_along(plan, world, behind):
    """Whether all that a step did is as the record has it."""
    for path in behind.doers:
        if path not in plan.rows or not _has_done(plan.rows[path], behind.doers[path]):
            return False
    for word in BOOK_WORDS:
        done, ahead = behind.asked[word], len(world.asked[word])
        if done[ahead:] != plan.books[word][ahead:len(done)]:
            return False
    return _is_within_cuts(plan, behind)


def _has_done(row, doer):
    """Whether what a process has done, and got, is the beginning of its row."""
    looks, arrivals = row
    number = len(doer.arrivals)
    if len(doer.story) > looks or doer.arrivals != arrivals[:number]:
        return False
    return number == len(arrivals) or arrivals[number][2] >= len(doer.story)


def _is_within_cuts(plan, behind):
    """Whether nobody went, and nothing came, beyond a cut whose row is not done."""
    for row in plan.books["code"][len(behind.asked["code"]):]:
        if len(row) == 3:
            limits = {path: (looks, number) for path, looks, number in row[2]}
            for path in behind.doers:
                doer = behind.doers[path]
                looks, number = limits.get(path, (0, 0))
                if len(doer.story) > looks or len(doer.arrivals) > number:
                    return False
    return True


def _first_wrong_number(record):
    """The first arrival whose number is not how many of the same sender stand ahead; None without one."""
    for path, _, arrivals in record[1]:
        counts = {}
        for at, (sender, number, _) in enumerate(arrivals):
            if number != counts.get(sender, 0):
                return ("pair", path, at)
            counts[sender] = number + 1
    return None


def is_record(value):
    """Whether any value has the form of a record."""
    if not isinstance(value, tuple) or len(value) != 3 or not is_same("record", value[0]):
        return False
    return _are_rows(value[1]) and _are_books(value[2])


def _are_rows(value):
    if not isinstance(value, tuple) or not all([_is_row(row) for row in value]):
        return False
    paths = [row[0] for row in value]
    if () not in paths or not _ascend(paths):
        return False
    return all([path == () or path[:-1] in paths for path in paths])


def _ascend(paths):
    for one, other in zip(paths, paths[1:]):
        if not one < other:
            return False
    return True


def _is_row(value):
    if not isinstance(value, tuple) or len(value) != 3 or not is_path(value[0]) or not is_count(value[1], 0):
        return False
    if not isinstance(value[2], tuple):
        return False
    least = 0
    for arrival in value[2]:
        if not _is_arrival(arrival, value[0], least, value[1]):
            return False
        least = arrival[2]
    return True


def _is_arrival(value, path, least, most):
    if not isinstance(value, tuple) or len(value) != 3 or not is_count(value[1], 0):
        return False
    if not is_count(value[2], least) or value[2] > most:
        return False
    if isinstance(value[0], str):
        return value[0] in ("clock", "names", "code")
    return is_path(value[0]) and value[0] != path


def _are_books(value):
    if not isinstance(value, tuple) or len(value) != 3 or not all([isinstance(rows, tuple) for rows in value]):
        return False
    names, code, clock = value
    if not all([_is_asking(row, 2) for row in names]):
        return False
    if not all([_is_asking(row, 2) or _is_cut_row(row) for row in code]):
        return False
    return all([is_same(TICK, row) or _is_asking(row, 2) for row in clock])


def _is_asking(value, size):
    return isinstance(value, tuple) and len(value) == size and is_path(value[0]) and is_count(value[1], 0)


def _is_cut_row(value):
    if not _is_asking(value, 3) or not isinstance(value[2], tuple):
        return False
    for row in value[2]:
        if not _is_asking(row, 3) or not is_count(row[2], 0):
            return False
    return _ascend([row[0] for row in value[2]])
