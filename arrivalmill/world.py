"""Worlds: how all stands behind the steps of a weaving, and what each further step does.

A world is never changed once a step has led to it: each step makes another one.
"""

from arrivalmill.calling import call_term
from arrivalmill.deeds import book_asked, look_done
from arrivalmill.doers import Doer, copy_of, go_on, look_ended, signal_came
from arrivalmill.exits import clerk, ended
from arrivalmill.having import holds
from arrivalmill.names import UNDEFINED, freed, give, left, who
from arrivalmill.running import Life, begun_state
from arrivalmill.shelf import current_edition, deleted, first_shelf, loaded, old_edition, without_old
from arrivalmill.signs import is_path
from arrivalmill.ties import born
from arrivalmill.timers import Clock

FIRST_KEEPS = (("pid", ()), False, (), (), ())


class World:
    """How all stands.

    doers by path; on_way: by (from, to) the tuple of (signal, the step that sent it) on the way; the books of names, of
    code (shelf), and the clock; asked: for each book the rows of who asked it. marks: for each step (whose it is, the
    books that it asked, the earlier steps that it needs, whether it does a purge or soft_purge, who was there then).
    causes and killed are those of the last step: the earlier steps that it needs, the paths of whom its purge ends.
    """

    def __init__(self, shelf):
        self.doers = {}
        self.on_way = {}
        self.clock = Clock()
        self.names = ()
        self.shelf = shelf
        self.asked = {"names": (), "code": (), "clock": ()}
        self.marks = ()
        self.causes = ()
        self.killed = ()


def copy_of_world(world):
    """A world alike, by itself."""
    other = World(world.shelf)
    other.doers = {path: world.doers[path] for path in world.doers}
    other.on_way = {pair: world.on_way[pair] for pair in world.on_way}
    other.clock = world.clock
    other.names = world.names
    other.asked = dict(world.asked)
    other.marks = world.marks
    return other


def world_begun(texts, start):
    """The world as a run begins: one process, whose first look is the full call of start."""
    world = World(first_shelf(texts))
    doer = Doer((), FIRST_KEEPS)
    doer.state = begun_state(*start)
    go_on(doer, world.shelf.book)
    world.doers[()] = doer
    return world


def can_do(world, step):
    """Whether any value is a step that can be done next."""
    if not isinstance(step, tuple) or not step or not isinstance(step[0], str):
        return False
    if step[0] == "go":
        if len(step) != 2 or not is_path(step[1]) or step[1] not in world.doers:
            return False
        return world.doers[step[1]].there is not None
    if step[0] == "come":
        if len(step) != 3 or not is_path(step[2]) or not is_sender(step[1]):
            return False
        return (step[1], step[2]) in world.on_way
    return step[0] == "tick" and len(step) == 1


def is_sender(value):
    """Whether any value is what signals can come from, as steps tell it."""
    return is_path(value) or (isinstance(value, str) and value in ("clock", "names"))


def world_after(world, step):
    """The world behind a step that can be done."""
    other = copy_of_world(world)
    ahead = {word: len(world.asked[word]) for word in world.asked}
    do = STEPS[step[0]]
    who_does, purges = do(other, step)
    books = tuple([word for word in ahead if len(other.asked[word]) > ahead[word]])
    there = tuple(sorted(world.doers)) if purges else ()
    other.marks = (*other.marks, (who_does, books, other.causes, purges, there))
    return other


def _doer_of(world, path):
    """A doer that may be changed."""
    doer = copy_of(world.doers[path])
    world.doers[path] = doer
    return doer


def _ask(world, word, row):
    world.asked[word] = (*world.asked[word], row)


def _put(world, sender, to, signal):
    """Puts a signal on the way."""
    rows = world.on_way.get((sender, to), ())
    world.on_way[(sender, to)] = (*rows, (signal, len(world.marks)))


def _put_all(world, sender, sent):
    for to, signal in sent:
        _put(world, sender, to[1], signal)


def _go(world, step):
    doer = _doer_of(world, step[1])
    if not doer.story and doer.begun_by is not None:
        world.causes = (doer.begun_by,)
    if doer.there[0] == "end":
        _end(world, doer, doer.there[1])
        return (doer.path, False)
    purges = doer.there[0] == "look" and doer.state[1] in ("purge", "soft")
    word = book_asked(doer)
    if word is not None:
        row = (doer.path, len(doer.story))
        _ask(world, word, (*row, cut_of(world)) if purges else row)
    answer = _answered(world, doer)
    sent, reason = look_done(doer, answer, world.shelf.book)
    _put_all(world, doer.path, sent)
    _follow(world, doer)
    for path in world.killed:
        _kill(world, path)
    doer = world.doers[doer.path]
    if reason is not None:
        _end(world, doer, reason)
    elif not doer.ended and doer.there is not None:
        _go_on(world, doer)
    return (doer.path, purges)


def _go_on(world, doer):
    if world.shelf.gone:
        # What is gone changes what calls come to, and nothing in a story tells of it.
        doer.trail = (*doer.trail, world.shelf.gone)
    go_on(doer, world.shelf.book)


def cut_of(world):
    """How all processes stand: (path, looks, how many signals had come)."""
    doers = [world.doers[path] for path in sorted(world.doers)]
    return tuple([(doer.path, len(doer.story), len(doer.arrivals)) for doer in doers])


def holders_of(world, module, edition):
    """The paths of the processes that hold an edition of a module, ascending."""
    if edition is None:
        return ()
    return tuple([path for path in sorted(world.doers) if holds(world.doers[path], module, edition)])


def _answered(world, doer):
    """What a book answers to the look that is there; the book is changed as it asks."""
    if doer.there[0] != "look" or doer.state[1] not in ANSWERS or book_asked(doer) is None:
        return None
    answer = ANSWERS[doer.state[1]]
    return answer(world, doer.state[2])


def _answer_send(world, parts):
    return who(world.names, parts[0])


def _answer_watch(world, parts):
    return who(world.names, parts[2])


def _answer_who(world, parts):
    found = who(world.names, parts[1])
    return UNDEFINED if found is None else found


def _answer_give(world, parts):
    lives = not world.doers[parts[2][1]].ended
    world.names, done = give(world.names, parts[1], parts[2], lives)
    return done


def _answer_free(world, parts):
    world.names, done = freed(world.names, parts[1])
    return done


def _answer_clock(world, _parts):
    return world.clock.now


def _answer_cancel(world, parts):
    remaining, world.clock = world.clock.without(parts[1])
    return remaining


def _answer_full(world, parts):
    return current_edition(world.shelf, parts[0], parts[1], len(parts[2]))


def _answer_load(world, parts):
    answer, world.shelf = loaded(world.shelf, parts[1], parts[2])
    return answer


def _answer_delete(world, parts):
    answer, world.shelf = deleted(world.shelf, parts[1])
    return answer


def _answer_soft(world, parts):
    if holders_of(world, parts[1], old_edition(world.shelf, parts[1])):
        return "false"
    world.shelf = without_old(world.shelf, parts[1])
    return "true"


def _answer_purge(world, parts):
    world.killed = holders_of(world, parts[1], old_edition(world.shelf, parts[1]))
    world.shelf = without_old(world.shelf, parts[1])
    return len(world.killed)


ANSWERS = {
    "send": _answer_send, "watch": _answer_watch, "who": _answer_who, "give": _answer_give, "free": _answer_free,
    "clock": _answer_clock, "cancel": _answer_cancel, "full": _answer_full, "load": _answer_load,
    "delete": _answer_delete, "soft": _answer_soft, "purge": _answer_purge,
}


def _follow(world, doer):
    """What else the last look of a doer does: a child, a timer, a notice of a name that nobody has."""
    look = doer.story[-1]
    if look[0] == "begin":
        _begin(world, doer, look)
    elif look[0] == "timer":
        _, reference, kind, time, to, term = look
        letter = term if kind == "send" else ("tuple", "timeout", reference, term)
        _set(world, reference, time, to[1], ("letter", letter))
    elif look[0] == "wait":
        _set(world, ("wait", doer.path, doer.waiting), look[1], doer.path, ("over", doer.waiting))
    elif look[0] == "watch" and look[3] is None:
        _put(world, "names", doer.path, ("notice", look[1], "noproc"))


def _set(world, key, time, to, signal):
    """Sets a timer."""
    world.clock, due = world.clock.with_timer(key, time, to, signal)
    for receiver, sent in due:
        _put(world, "clock", receiver, sent)


def _begin(world, parent, look):
    _, how, child, start, reference = look
    doer = Doer(child[1], born(child, parent.keeps[0], how, reference))
    doer.begun_by = len(world.marks)
    if how == "tied":
        doer.heard = ((parent.path, ("tie", 0), 0),)
    if start[0] == "call":
        doer.state = begun_state(start[1], start[2], start[3])
    else:
        doer.state = call_term(Life(child[1], world.shelf.book), start[1], (), ({}, None), None)
    _go_on(world, doer)
    world.doers[child[1]] = doer


def _arrive(doer, sender, signal):
    """Notes that a signal comes."""
    number = len([row for row in doer.arrivals if row[0] == sender])
    place = len(doer.story)
    doer.arrivals = (*doer.arrivals, (sender, number, place))
    if not doer.ended:
        doer.heard = (*doer.heard, (sender, signal, place))


def _kill(world, path):
    """Ends a process by a purge."""
    doer = _doer_of(world, path)
    _arrive(doer, "code", ("exit", "kill", False, 0))
    _end(world, doer, "killed")


def _end(world, doer, reason):
    _ask(world, "names", (doer.path, len(doer.story)))
    world.names = left(world.names, doer.keeps[0])
    _put_all(world, doer.path, ended(doer.keeps, reason))
    look_ended(doer, reason)


def _come(world, step):
    _, sender, path = step
    rows = world.on_way.pop((sender, path))
    signal, cause = rows[0]
    if len(rows) > 1:
        world.on_way[(sender, path)] = rows[1:]
    world.causes = (cause,)
    doer = _doer_of(world, path)
    _arrive(doer, sender, signal)
    if not doer.ended:
        reason = signal_came(doer, sender, signal)
        if reason is not None:
            _end(world, doer, reason)
    elif isinstance(sender, tuple):
        doer.keeps, sent = clerk(doer.keeps, ("pid", sender), signal)
        _put_all(world, path, sent)
    return (path, False)


def _tick(world, _step):
    _ask(world, "clock", "tick")
    world.clock, due = world.clock.ticked()
    for to, signal in due:
        _put(world, "clock", to, signal)
    return (None, False)


STEPS = {"go": _go, "come": _come, "tick": _tick}
