"""Code of tries, receives, and lists that are made along ways.

A try's slot is nil again as soon as the try is closed. A receive is a look at letter by letter, and a wait behind the
last one. Lists are made in rings of rows, the last part first, and turned at last.
"""

from arrivalmill.liftheads import lift_clauses, lift_guard, with_nothing_hidden
from arrivalmill.liftvalues import constant_of


def _open(sheet, label):
    slot = sheet.slots.take()
    sheet.write("try", slot, label)
    return slot


def _close(sheet, slot):
    sheet.write("untry", slot)
    sheet.write("clear", slot)


def _handle(sheet, label, slot, word, reason):
    """What is raised comes to a label: its class and its reason go to slots."""
    sheet.mark(label)
    sheet.write("clear", slot)
    sheet.write("move", "x0", word)
    sheet.write("move", "x1", reason)


def lift_catch(lift, node, env, dest):
    """What is raised is made a term."""
    sheet = lift.sheet
    caught, end = sheet.label(), sheet.label()
    target, word = sheet.slots.take(), sheet.slots.take()
    slot = _open(sheet, caught)
    lift.node(node[1], env, target)
    _close(sheet, slot)
    sheet.jump(end)
    _handle(sheet, caught, slot, word, target)
    error, left = sheet.label(), sheet.label()
    sheet.write("pick", error, word, sheet.constant("throw"), end, sheet.constant("exit"), left)
    sheet.mark(error)
    _write_pair(sheet, target, [target, sheet.constant(("list",))])
    sheet.mark(left)
    _write_pair(sheet, target, [sheet.constant("EXIT"), target])
    sheet.mark(end)
    lift.give_value(target, dest)
    sheet.slots.give_back([target, word, slot])
    return env


def _write_pair(sheet, target, sources):
    sheet.write("room", 3, 0)
    sheet.write("tuple", target, *sources)


def lift_try(lift, node, env, dest):
    """A try, of which nobody behind it sees what it binds."""
    sheet = lift.sheet
    ahead = sheet.slots.enter()
    target = sheet.slots.take()
    if node[4]:
        _lift_with_after(lift, node, env, target)
    else:
        _lift_caught(lift, node, env, target)
    sheet.slots.leave(ahead)
    lift.give_value(target, dest)
    sheet.slots.give_back([target])
    return env


def _lift_with_after(lift, node, env, target):
    """A try with an after, whose body comes at last, whatever came: word is nil if nothing was raised."""
    sheet = lift.sheet
    caught, at_last, fine = [sheet.label() for _ in range(3)]
    word, left = sheet.slots.take(), sheet.slots.take()
    slot = _open(sheet, caught)
    _lift_caught(lift, node, env, target)
    _close(sheet, slot)
    sheet.write("move", sheet.constant(("list",)), word)
    sheet.jump(at_last)
    _handle(sheet, caught, slot, word, target)
    sheet.mark(at_last)
    lift.body(node[4], env, left)
    sheet.write("test", "atom", fine, word)
    sheet.write("raise", word, target)
    sheet.mark(fine)
    sheet.slots.give_back([word, left, slot])


def _lift_caught(lift, node, env, target):
    """A try's body, its of-clauses, which are not within it, and what catches."""
    sheet = lift.sheet
    _, body, told, caught, _ = node
    if not caught:
        names = lift.body(body, env, target)
        _lift_told(lift, told, names, target)
        return
    label, end = sheet.label(), sheet.label()
    word, reason = sheet.slots.take(), sheet.slots.take()
    slot = _open(sheet, label)
    names = lift.body(body, env, target)
    _close(sheet, slot)
    _lift_told(lift, told, names, target)
    sheet.jump(end)
    _handle(sheet, label, slot, word, reason)
    lift_clauses(lift, with_nothing_hidden(caught), [word, reason], env, target, ("raise", word, reason))
    sheet.mark(end)
    sheet.slots.give_back([word, reason, slot])


def _lift_told(lift, clauses, names, target):
    """The of-clauses, which take what the body came to."""
    if clauses:
        lift_clauses(lift, with_nothing_hidden(clauses), [target], names, target, ("fail", "try_clause", target))


def lift_receive(lift, node, env, dest):
    """A receive."""
    _, clauses, after = node
    end = lift.sheet.label()
    arms = Arms(lift, clauses, env, dest, end)
    behind = env
    if not after:
        arms.write_looks(None)
    else:
        behind = {**env, **_lift_timed(lift, arms, after, env, dest)}
    behind = {**behind, **arms.write_bodies()}
    lift.sheet.mark(end)
    return behind


class Arms:
    """The clauses of a receive. Their heads may be written twice, for waits with and without a time; bodies once."""

    def __init__(self, lift, cases, env, dest, end):
        self.lift = lift
        self.cases = cases
        self.env = env
        self.dest = dest
        self.end = end
        self.labels = [lift.sheet.label() for _ in cases]
        self.names = [env for _ in cases]

    def write_looks(self, time):
        """Writes a look with all heads, and its wait; behind it comes what is done when its time is over."""
        sheet = self.lift.sheet
        look, none = sheet.label(), sheet.label()
        letter = sheet.slots.take()
        sheet.mark(look)
        sheet.write("look", none)
        sheet.write("move", "x0", letter)
        for number, (patterns, guard, _) in enumerate(self.cases):
            fail = sheet.label()
            self.names[number] = self.lift.matched(patterns[0], letter, self.env, self.env, fail)
            lift_guard(self.lift, guard, self.names[number], fail)
            sheet.write("take")
            sheet.jump(self.labels[number])
            sheet.mark(fail)
        sheet.write("pass", look)
        sheet.mark(none)
        if time is None:
            sheet.write("wait", look)
        else:
            sheet.write("wait", look, time)
        sheet.slots.give_back([letter])

    def write_bodies(self):
        """Writes the bodies: all names that they bind."""
        behind = {}
        for label, names, (_, _, body) in zip(self.labels, self.names, self.cases):
            self.lift.sheet.mark(label)
            behind = {**behind, **self.lift.body(body, names, self.dest)}
            self.leave()
        return behind

    def leave(self):
        """Goes on behind the receive, if something comes behind it."""
        if self.dest is not None:
            self.lift.sheet.jump(self.end)


def _lift_timed(lift, arms, after, env, dest):
    """A receive with a time, and what is done when that is over: the names behind it."""
    sheet = lift.sheet
    taken = []
    time, behind = lift.source(after[0], env, taken)
    known = constant_of(after[0][1]) if after[0][0] == "plain" else None
    wrong = sheet.label()
    if known == "infinity" or (isinstance(known, int) and known >= 0):
        # Nothing comes to the after's body behind an endless wait, but what is written behind it may read its names.
        arms.write_looks(None if known == "infinity" else time)
    else:
        number = sheet.label()
        sheet.write("same", number, time, sheet.constant("infinity"))
        arms.write_looks(None)
        sheet.mark(number)
        sheet.write("test", "integer", wrong, time)
        sheet.write("atmost", wrong, sheet.constant(0), time)
        arms.write_looks(time)
    behind = lift.body(after[1], behind, dest)
    arms.leave()
    sheet.mark(wrong)
    sheet.write("fail", "timeout_value")
    sheet.slots.give_back(taken)
    return behind


def lift_list(lift, node, env, dest):
    """A list made along ways."""
    sheet = lift.sheet
    ahead = sheet.slots.enter()
    found, target = sheet.slots.take(), sheet.slots.take()
    nil = sheet.constant(("list",))
    done = sheet.label()
    sheet.write("move", nil, found)
    _lift_ways(lift, node, 0, env, found, done)
    sheet.mark(done)
    sheet.slots.leave(ahead)
    sheet.write("move", nil, target)
    _write_turned(sheet, found, target)
    lift.give_value(target, dest)
    sheet.slots.give_back([found, target])
    return env


def _write_turned(sheet, found, target):
    """Puts all parts of found, from its first one on, ahead of target."""
    lap, end = sheet.label(), sheet.label()
    part = sheet.slots.take()
    sheet.mark(lap)
    sheet.write("test", "cell", end, found)
    sheet.write("head", found, part)
    sheet.write("tail", found, found)
    sheet.write("room", 2, 0)
    sheet.write("cell", part, target, target)
    sheet.jump(lap)
    sheet.mark(end)
    sheet.slots.give_back([part])


def _lift_ways(lift, node, at, env, found, further):
    """The ways from at on, behind which it goes on at the label further."""
    sheet = lift.sheet
    taken = []
    if at == len(node[2]):
        source, _ = lift.source(node[1], env, taken)
        sheet.write("room", 2, 0)
        sheet.write("cell", source, found, found)
        sheet.jump(further)
    elif node[2][at][0] == "if":
        source, _ = lift.source(node[2][at][1], env, taken)
        wrong, fine = sheet.label(), sheet.label()
        sheet.write("pick", wrong, source, sheet.constant("true"), fine, sheet.constant("false"), further)
        sheet.mark(wrong)
        sheet.write("fail", "bad_filter", source)
        sheet.mark(fine)
        _lift_ways(lift, node, at + 1, env, found, further)
    else:
        _lift_lap(lift, node, at, env, found, further)
    sheet.slots.give_back(taken)


def _lift_lap(lift, node, at, env, found, further):
    """A way along a list, whose parts are bound anew in each lap."""
    sheet = lift.sheet
    _, inner, pattern, hidden = node[2][at]
    taken = []
    source, _ = lift.source(inner, env, taken)
    parts, part = sheet.slots.take(), sheet.slots.take()
    sheet.write("move", source, parts)
    lap, end, wrong = [sheet.label() for _ in range(3)]
    sheet.mark(lap)
    sheet.write("test", "cell", end, parts)
    sheet.write("head", parts, part)
    sheet.write("tail", parts, parts)
    ahead = sheet.slots.enter()
    kept = {name: env[name] for name in env if name not in hidden}
    _lift_ways(lift, node, at + 1, lift.matched(pattern, part, kept, env, lap), found, lap)
    sheet.slots.leave(ahead)
    sheet.mark(end)
    sheet.write("same", wrong, parts, sheet.constant(("list",)))
    sheet.jump(further)
    sheet.mark(wrong)
    sheet.write("fail", "bad_generator", parts)
    sheet.slots.give_back([parts, part, *taken])
