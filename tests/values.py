"""Values for tests: terms of all kinds at their bounds, what is near to one, and terms by random."""

NIL = ("list",)

# One behind the other by the order of all terms.
ASCENDING = (
    -10 ** 300, -1, 0, 1, 2 ** 70,
    "0", "@", "EXIT", "Z", "_", "a", "abcdefghijklmnop", "b",
    ("ref", (), 1), ("ref", (), 2), ("ref", (1,), 1), ("ref", (1, 2), 1), ("ref", (2,), 1),
    ("fun", "A", "f", 1, 0, ()), ("fun", "a", 0, 1, 1, ()), ("fun", "a", 0, 1, 1, (1,)), ("fun", "a", 0, 1, 1, (2,)),
    ("fun", "a", 0, 1, 1, (0, 0)), ("fun", "a", 0, 1, 2, ()), ("fun", "a", 0, 2, 1, ()), ("fun", "a", 1, 0, 1, ()),
    ("fun", "a", "0", 0, 0, ()), ("fun", "a", "f", 0, 0, ()), ("fun", "a", "f", 9, 0, ()), ("fun", "a", "f", 9, 1, ()),
    ("fun", "a", "g", 0, 0, ()),
    ("pid", ()), ("pid", (1,)), ("pid", (1, 1)), ("pid", (2,)), ("pid", (10,)),
    ("tuple",), ("tuple", 2), ("tuple", "a"), ("tuple", 1, 1), ("tuple", 1, 2), ("tuple", 2, 1), ("tuple", 0, 0, 0),
    ("map",), ("map", (1, 5)), ("map", (2, 0)), ("map", (1, 9), (2, 0)), ("map", (1, 9), (2, 1)),
    ("map", (1, 0), (3, 0)),
    NIL, ("odd", 1, 2), ("odd", 1, "a"), ("odd", 1, ("map",)), ("list", 1), ("odd", 1, 1, 5), ("list", 1, 1),
    ("odd", 1, 2, 0), ("list", 1, 2), ("list", 1, 2, 3), ("list", 1, 3), ("odd", 1, ("bytes",)), ("list", 2),
    ("list", "a"), ("list", NIL), ("list", ("list", 1)),
    ("bytes",), ("bytes", 0), ("bytes", 0, 255), ("bytes", 1), ("bytes", 255),
)

# What is no term, of any kind.
NO_TERMS = (
    True, False, None, "", "a b", "a-b", "abcdefghijklmnopq", "\n", "a\n", 1.5, (), (1, 2), [], ["list"], {}, {"a": 1},
    ("term",), ("list", True), ("list", None), ("list", []), ["list", 1], (True,), (None,), (("list",),),
    ("ref",), ("ref", ()), ("ref", (), 0), ("ref", (), -1), ("ref", (), True), ("ref", [], 1), ("ref", (0,), 1),
    ("ref", (True,), 1), ("ref", (), 1, 1), ("ref", ("a",), 1), ("ref", (), "a"), ("ref", tuple(range(1, 42)), 1),
    ("pid",), ("pid", ((),)), ("pid", (0,)), ("pid", (1, True)), ("pid", [1]), ("pid", 1), ("pid", (), ()),
    ("pid", tuple(range(1, 42))), ("pid", None),
    ("fun", "m", "f", 1, 0), ("fun", "m", "f", 1, 0, (), ()), ("fun", 1, "f", 1, 0, ()), ("fun", "m", -1, 1, 1, ()),
    ("fun", "m", True, 1, 1, ()), ("fun", "m", "f", 10, 0, ()), ("fun", "m", "f", -1, 0, ()),
    ("fun", "m", "f", True, 0, ()), ("fun", "m", 0, 1, 0, ()), ("fun", "m", "f", 1, -1, ()),
    ("fun", "m", "f", 1, False, ()), ("fun", "m", "f", 1, 0, (1,)), ("fun", "m", "f", 1, 1, (1,)),
    ("fun", "m", 0, 1, 1, []), ("fun", "m", 0, 1, 1, (True,)), ("fun", "m", 0, 1, 1, None), ("fun", "", 0, 1, 1, ()),
    ("fun", "m", "f", 1, 0, []), ("fun", "m", "", 1, 0, ()),
    ("tuple", True), ("tuple", ("tuple", None)), ("map", 1), ("map", (1,)), ("map", (1, 2, 3)), ("map", [1, 2]),
    ("map", (2, 1), (1, 1)), ("map", (1, 1), (1, 2)), ("map", (1, True)), ("map", (True, 1)), ("map", ()),
    ("map", ("a", 1), (1, 1)), ("map", (("list", 1), 1), (("odd", 1, 2), 1)),
    ("odd",), ("odd", 1), ("odd", 1, NIL), ("odd", 1, ("list", 2)), ("odd", 1, ("odd", 2, 3)), ("odd", True, 1),
    ("bytes", -1), ("bytes", 256), ("bytes", True), ("bytes", "a"), ("bytes", (1,)), ("bytes", None),
)


def term(random, depth):
    """A term by random, made of few unlike ones, so that many are equal, or nearly so."""
    leaf = random.choice((0, 1, -1, "a", "b", "end", NIL, ("tuple",), ("map",), ("bytes",), ("bytes", 1, 2),
                          ("pid", ()), ("pid", (1,)), ("ref", (), 1), ("fun", "m", "f", 1, 0, ())))
    if depth <= 0:
        return leaf
    parts = [term(random, depth - 1) for _ in range(random.randint(0, 3))]
    kind = random.choice(("leaf", "tuple", "list", "odd", "map", "fun"))
    if kind == "leaf" or (kind == "odd" and not parts):
        return leaf
    if kind == "odd":
        end = term(random, depth - 1)
        while isinstance(end, tuple) and end[0] in ("list", "odd"):
            end = term(random, 0)
        return ("odd", *parts, end)
    if kind == "map":
        pairs = []
        for key in parts:
            if all(naive(key, other) != 0 for other, _ in pairs):
                pairs.append((key, term(random, depth - 1)))
        return ("map", *in_order(pairs))
    if kind == "fun":
        return ("fun", "m", random.randint(0, 1), random.randint(0, 1), random.randint(1, 2), tuple(parts))
    return (kind, *parts)


def in_order(pairs):
    done = []
    for pair in pairs:
        at = 0
        while at < len(done) and naive(done[at][0], pair[0]) < 0:
            at += 1
        done.insert(at, pair)
    return done


RANKS = ("ref", "fun", "pid", "tuple", "map", "list", "bytes")


def naive(one, other):
    """The order of all terms, told word for word: -1, 0 or 1."""
    ranks = [rank(one), rank(other)]
    if ranks[0] != ranks[1]:
        return -1 if ranks[0] < ranks[1] else 1
    if ranks[0] in (0, 1) or one[0] in ("ref", "pid", "bytes"):
        return (one > other) - (one < other)
    if one[0] == "fun":
        return naive_function(one, other)
    if one[0] == "tuple":
        return naive_row(one[1:], other[1:])
    if one[0] == "map":
        if len(one) != len(other):
            return -1 if len(one) < len(other) else 1
        keys = naive_row([key for key, _ in one[1:]], [key for key, _ in other[1:]])
        return keys or naive_row([worth for _, worth in one[1:]], [worth for _, worth in other[1:]])
    if NIL in (one, other):
        return (one != NIL) - (other != NIL)
    return naive(one[1], other[1]) or naive(rest(one), rest(other))


def rank(term):
    if isinstance(term, int):
        return 0
    return 1 if isinstance(term, str) else 2 + RANKS.index("list" if term[0] == "odd" else term[0])


def rest(term):
    if term[0] == "odd" and len(term) == 3:
        return term[2]
    return (term[0], *term[2:])


def naive_function(one, other):
    for at in (1, 2, 3, 4):
        if one[at] != other[at]:
            return naive(one[at], other[at])
    return naive_row(one[5], other[5])


def naive_row(one, other):
    if len(one) != len(other):
        return -1 if len(one) < len(other) else 1
    for left, right in zip(one, other):
        if naive(left, right):
            return naive(left, right)
    return 0
