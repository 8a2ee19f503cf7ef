"""Code of what is built of values, and of calls: the rows of a node, and which names stand behind it.

Names stand in slots: env is a dict of them, never changed. A value goes to the register dest; where dest is None it is
what the function comes to: nothing comes behind.
"""

from arrivalmill.forms import cons_parts
from arrivalmill.shapes import with_parts
from arrivalmill.signs import atom_text


def constant_of(form):
    """The term of a form that is made of constants alone; None if it is not."""
    word = form[0]
    if word == "number" or word == "atom":
        return form[1]
    if word == "bytes":
        return ("bytes", *form[1])
    if word == "nil":
        return ("list",)
    if word == "tuple":
        terms = [constant_of(part) for part in form[1]]
        return None if None in terms else ("tuple", *terms)
    if word != "cons":
        return None
    parts, end = cons_parts(form)
    terms = [constant_of(part) for part in [*parts, end]]
    return None if None in terms else with_parts(terms[:-1], terms[-1])


def opened(form):
    """The node of a form that needs no calls, but is no constant or name."""
    word = form[0]
    if word == "tuple":
        return ("tuple", _plain(form[1]), None)
    if word == "cons":
        parts, end = cons_parts(form)
        return ("cons", _plain([*parts, end]), None)
    if word == "map":
        return ("map", _plain([part for row in form[1] for part in row]), None)
    if word == "op":
        return ("op", _plain(form[2]), form[1])
    if word == "built":
        return ("pure", _plain(form[2]), form[1])
    return (word, *_plain(form[1:]))


def _plain(forms):
    return tuple([("plain", form) for form in forms])


def _with_target(lift, node, env, dest, write):
    """Works out the parts of a node, and writes what is made of them."""
    slots = lift.sheet.slots
    taken = []
    sources, env = lift.sources(node[1], env, taken)
    target = dest
    if target is None:
        target = slots.take()
        taken.append(target)
    write(lift.sheet, target, sources, node[2])
    lift.give_value(target, dest)
    slots.give_back(taken)
    return env


def _write_tuple(sheet, target, sources, _more):
    sheet.write("room", len(sources) + 1, 0)
    sheet.write("tuple", target, *sources)


def _write_cons(sheet, target, sources, _more):
    sheet.write("room", 2 * len(sources) - 2, 0)
    rest = sources[-1]
    for source in reversed(sources[:-1]):
        sheet.write("cell", source, rest, target)
        rest = target


def _write_map(sheet, target, sources, _more):
    sheet.make(target, "map", sources)


def _write_put(sheet, target, sources, signs):
    chart = sources[0]
    at = 0
    while at < len(signs):
        end = at
        while end < len(signs) and signs[end] == signs[at]:
            end += 1
        rows = sources[2 * at + 1:2 * end + 1]
        sheet.make(target, "may" if signs[at] == "=>" else "must", [chart, *rows])
        chart = target
        at = end


def _write_word(sheet, target, sources, word):
    sheet.make(target, word, sources)


def _write_send(sheet, target, sources, _more):
    sheet.make(target, "!", sources)


def _lift_tuple(lift, node, env, dest):
    return _with_target(lift, node, env, dest, _write_tuple)


def _lift_cons(lift, node, env, dest):
    return _with_target(lift, node, env, dest, _write_cons)


def _lift_map(lift, node, env, dest):
    return _with_target(lift, node, env, dest, _write_map)


def _lift_put(lift, node, env, dest):
    return _with_target(lift, node, env, dest, _write_put)


def _lift_word(lift, node, env, dest):
    return _with_target(lift, node, env, dest, _write_word)


def _lift_send(lift, node, env, dest):
    return _with_target(lift, node, env, dest, _write_send)


def _lift_left(lift, node, env, dest):
    """The right side is worked out only behind one truth of the left side; what it binds nobody sees."""
    sheet = lift.sheet
    word, left, right = node
    taken = []
    source, env = lift.source(left, env, taken)
    target = sheet.slots.take()
    further, end = sheet.label(), sheet.label()
    sheet.write("move", source, target)
    go_on, stop = ("true", "false") if word == "both" else ("false", "true")
    wrong = sheet.label() if sheet.guarding is None else sheet.guarding
    sheet.write("pick", wrong, source, sheet.constant(go_on), further, sheet.constant(stop), end)
    if sheet.guarding is None:
        sheet.mark(wrong)
        sheet.write("fail", "badarg", source)
    sheet.mark(further)
    lift.node(right, env, target)
    sheet.mark(end)
    lift.give_value(target, dest)
    sheet.slots.give_back([target, *taken])
    return env


def _lift_fun(lift, node, env, dest):
    _, number, size, names = node
    return _lift_made(lift, env, dest, ("fun", number, lift.fun_label(number), size), [env[name] for name in names])


def _lift_local(lift, node, env, dest):
    return _lift_made(lift, env, dest, ("own",), [atom_text(node[1]), node[2]])


def _lift_made(lift, env, dest, words, more):
    """A row of these words, its target, and more words."""
    slots = lift.sheet.slots
    target = slots.take() if dest is None else dest
    row = [*words, target, *more]
    lift.sheet.write(*row)
    lift.give_value(target, dest)
    slots.give_back([target] if dest is None else [])
    return env


def _lift_far(lift, node, env, dest):
    lift.give_value(lift.sheet.constant(("fun", node[1], node[2], node[3], 0, ())), dest)
    return env


def _lift_match(lift, node, env, dest):
    sheet = lift.sheet
    taken = []
    source, env = lift.source(node[1], env, taken)
    wrong, fine = sheet.label(), sheet.label()
    behind = lift.matched(node[2], source, env, env, wrong)
    sheet.jump(fine)
    sheet.mark(wrong)
    sheet.write("fail", "badmatch", source)
    sheet.mark(fine)
    lift.give_value(source, dest)
    sheet.slots.give_back(taken)
    return behind


def _lift_do(lift, node, env, dest):
    return lift.body(node[1], env, dest)


VALUES = {
    "tuple": _lift_tuple, "cons": _lift_cons, "map": _lift_map, "put": _lift_put, "op": _lift_word, "pure": _lift_word,
    "ask": _lift_word, "make_ref": _lift_word, "send": _lift_send, "both": _lift_left, "either": _lift_left,
    "fun": _lift_fun, "local": _lift_local, "far": _lift_far, "match": _lift_match, "do": _lift_do,
}


def lift_value(lift, node, env, dest):
    """What is built of values: the names behind it."""
    work = VALUES[node[0]]
    return work(lift, node, env, dest)


def _with_arguments(lift, nodes, env, dest, first, words, last_words):
    """Works out nodes, of which those from first on are arguments, those ahead stand behind them in x; then calls.

    Where nothing comes behind a call it is a last one.
    """
    sheet = lift.sheet
    taken = []
    sources, env = lift.sources(nodes, env, taken)
    for number, source in enumerate([*sources[first:], *sources[:first]]):
        sheet.write("move", source, "x" + str(number))
    sheet.slots.give_back(taken)
    if dest is None:
        sheet.write("unframe")
        sheet.write(*last_words)
    else:
        sheet.write(*words)
        sheet.write("move", "x0", dest)
    return env


def _lift_call(lift, node, env, dest):
    many = len(node[1])
    words = (lift.functions[(node[2], many)], many)
    return _with_arguments(lift, node[1], env, dest, 0, ("call", *words), ("last", *words))


def _lift_outer(lift, node, env, dest):
    many = len(node[1]) - 2
    return _with_arguments(lift, node[1], env, dest, 2, ("outer", many), ("outlast", many))


def _lift_called(lift, node, env, dest):
    many = len(node[1]) - 1
    return _with_arguments(lift, node[1], env, dest, 1, ("apply", many), ("applast", many))


def _lift_apply(lift, node, env, dest):
    if len(node[1]) == 2:
        return _with_arguments(lift, node[1], env, dest, 0, ("spread",), ("spreadlast",))
    return _with_arguments(lift, node[1], env, dest, 0, ("outspread",), ("outspreadlast",))


CALLS = {"call": _lift_call, "outer": _lift_outer, "called": _lift_called, "apply": _lift_apply}


def lift_call(lift, node, env, dest):
    """A call: the names behind it."""
    work = CALLS[node[0]]
    return work(lift, node, env, dest)
