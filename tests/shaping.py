"""Heads, terms and answers by random, for tests; and what patterns and answers mean, word for word."""

from arrivalmill.shapes import with_pair, with_parts
from arrivalmill.spots import There


def pattern(rng, depth, names, known):
    """A pattern by random."""
    word = rng.random()
    if depth == 0 or word < 0.35:
        return rng.choice((("any",), ("name", rng.choice(names)), ("name", rng.choice(names)), ("number", rng.choice((1, -2))), ("atom", "a"), ("nil",), ("bytes", (1,))))
    part = lambda: pattern(rng, depth - 1, names, known)
    if word < 0.6:
        return ("tuple", tuple(part() for _ in range(rng.choice((0, 1, 2, 2)))))
    if word < 0.8:
        return ("cons", part(), part())
    if word < 0.93:
        keys = [("number", 1), ("atom", "a"), *(("name", name) for name in known)]
        return ("map", tuple((rng.choice(keys), part()) for _ in range(rng.choice((0, 1, 2)))))
    return ("alias", part(), part())


def clauses(rng, known, width, many):
    names = ["X", "Y", *known]
    return tuple((tuple(pattern(rng, 2, names, known) for _ in range(width)), rng.choice(((), (), ("g",))), ()) for _ in range(many))


def term(rng, depth):
    """A term by random."""
    word = rng.random()
    if depth == 0 or word < 0.4:
        return rng.choice((1, -2, "a", "b", ("list",), ("bytes", 1), ("pid", ()), ("tuple",), ("map",)))
    if word < 0.6:
        return ("tuple", *(term(rng, depth - 1) for _ in range(rng.choice((1, 2, 2)))))
    if word < 0.8:
        return with_parts((term(rng, depth - 1),), term(rng, depth - 1))
    chart = ("map",)
    for _ in range(rng.choice((1, 2))):
        chart = with_pair(chart, rng.choice((1, "a", "b", term(rng, 0), term(rng, depth - 1))), term(rng, depth - 1))
    return chart


def alike(rng, told, worths):
    """A term that a pattern fits, most often; worths are those of its names, which are drawn as they come."""
    word = told[0]
    if word == "any":
        return term(rng, 1)
    if word == "name":
        if rng.random() < 0.1:
            return term(rng, 1)
        return worths.setdefault(told[1], term(rng, 1))
    if word in ("number", "atom"):
        return told[1] if rng.random() < 0.92 else term(rng, 1)
    if word == "nil":
        return ("list",)
    if word == "bytes":
        return ("bytes", *told[1])
    if word == "tuple":
        return ("tuple", *(alike(rng, part, worths) for part in told[1]))
    if word == "cons":
        return with_parts((alike(rng, told[1], worths),), alike(rng, told[2], worths))
    if word == "alias":
        return alike(rng, rng.choice(told[1:]), worths)
    chart = ("map", ("zz", 1)) if rng.random() < 0.5 else ("map",)
    for key, value in told[1]:
        key = worths.setdefault(key[1], term(rng, 1)) if key[0] == "name" else key[1]
        chart = with_pair(chart, key, alike(rng, value, worths))
    return chart


def fits(told, one, names, known):
    """Whether a pattern fits a term, by the words of section 14; names are bound as they come."""
    word = told[0]
    if word == "any":
        return True
    if word == "name":
        if told[1] in known:
            return known[told[1]] == one
        return names.setdefault(told[1], one) == one
    if word in ("number", "atom"):
        return one == told[1]
    if word in ("nil", "bytes"):
        return one == (("list",) if word == "nil" else ("bytes", *told[1]))
    if word == "alias":
        return fits(told[1], one, names, known) and fits(told[2], one, names, known)
    if not isinstance(one, tuple):
        return False
    if word == "tuple":
        return one[0] == "tuple" and len(one) == len(told[1]) + 1 and all([fits(part, inner, names, known) for part, inner in zip(told[1], one[1:])])
    if word == "cons":
        if one[0] not in ("list", "odd") or len(one) == 1:
            return False
        rest = one[2] if one[0] == "odd" and len(one) == 3 else (one[0], *one[2:])
        return fits(told[1], one[1], names, known) and fits(told[2], rest, names, known)
    if one[0] != "map":
        return False
    chart = [(repr(key), value) for key, value in one[1:]]
    for key, value in told[1]:
        wanted = repr(known[key[1]] if key[0] == "name" else key[1])
        found = [inner for other, inner in chart if other == wanted]
        if not found or not fits(value, found[0], names, known):
            return False
    return True


def questions(rng, there, known):
    """A question by random about a place that is there; None without one."""
    places = sorted(there.places, key=repr)
    if not places:
        return None
    rows = [("is", rng.choice((1, "a", "b", ("list",), ("bytes", 1)))), ("tuple", rng.choice((0, 1, 2))), ("cons",), ("map",), ("has", rng.choice((1, "a"))), ("same", rng.choice(places))]
    rows += [(word, name) for word in ("keyed", "held") for name in known] * 2
    return rng.choice(places), rng.choice(rows)


def answers(rng, width, known, most):
    """Answers by random, each of which can stand behind those ahead."""
    there, rows = There(width, known, ()), []
    for _ in range(rng.randint(0, most)):
        told = questions(rng, there, known)
        if told is not None:
            rows.append((*told, rng.random() < 0.65))
            there.answer(*rows[-1])
    return tuple(rows)
