"""Makes forms by random, of all kinds, also those that no one would write."""

NAMES = ("X", "Y", "Z", "_W")
ATOMS = ("a", "end", "Big", "f", "true")
SIGNS = ("==", "<", "++", "--", "+", "-", "bor", "*", "div", "and", "xor", "=:=")


def name(random):
    return ("name", random.choice(NAMES))


def atom(random):
    return ("atom", random.choice(ATOMS))


def few(make, random, depth, least=0, most=2):
    return tuple(make(random, depth - 1) for _ in range(random.randint(least, most)))


def pattern(random, depth):
    leaves = [lambda: ("number", random.randint(-3, 300)), lambda: atom(random), lambda: name(random),
              lambda: ("any",), lambda: ("bytes", (1, 255)), lambda: ("nil",)]
    if depth <= 0:
        return random.choice(leaves)()
    return random.choice(leaves + [
        lambda: ("tuple", few(pattern, random, depth)),
        lambda: ("cons", pattern(random, depth - 1), pattern(random, depth - 1)),
        lambda: ("map", few(lambda r, d: (random.choice((atom(r), name(r), ("number", -2))), pattern(r, d)),
                            random, depth)),
        lambda: ("alias", pattern(random, depth - 1), pattern(random, depth - 1)),
    ])()


def test(random, depth):
    leaves = [lambda: ("number", random.randint(0, 300)), lambda: atom(random), lambda: name(random)]
    if depth <= 0:
        return random.choice(leaves)()
    sub = lambda: test(random, depth - 1)
    return random.choice(leaves + [
        lambda: ("op", "<", (sub(), sub())), lambda: ("op", "+", (sub(), sub())), lambda: ("op", "not", (sub(),)),
        lambda: ("both", sub(), sub()), lambda: ("either", sub(), sub()), lambda: ("tuple", (sub(),)),
        lambda: ("built", "hd", (sub(),)), lambda: ("map", ((sub(), sub()),)),
    ])()


def guard(random, depth, least=0):
    return few(lambda r, d: few(test, r, 2, 1), random, depth, least)


def body(random, depth):
    return few(expression, random, depth, 1)


def clause(random, depth, many=1, least=0):
    patterns = tuple(pattern(random, min(depth - 1, 2)) for _ in range(many))
    return (patterns, guard(random, depth, least), body(random, depth))


def clauses(random, depth, many=1, least=0):
    return few(lambda r, d: clause(r, d, many, least), random, depth, 1)


def caught(random, depth):
    first = random.choice((("atom", "throw"), ("any",), ("name", "X")))
    return ((first, pattern(random, 1)), guard(random, depth), body(random, depth))


def way(random, depth):
    if random.random() < 0.5:
        return ("if", expression(random, depth))
    return ("from", pattern(random, min(depth, 2)), expression(random, depth))


def expression(random, depth):
    leaves = [lambda: ("number", random.randint(0, 300)), lambda: atom(random), lambda: name(random),
              lambda: ("bytes", ()), lambda: ("nil",), lambda: ("local", "f", 1), lambda: ("far", "end", "g", 9)]
    if depth <= 0:
        return random.choice(leaves)()
    sub = lambda: expression(random, depth - 1)
    many = random.randint(0, 2)
    made = [
        lambda: ("tuple", few(expression, random, depth)), lambda: ("cons", sub(), sub()),
        lambda: ("map", few(lambda r, d: (expression(r, d), expression(r, d)), random, depth)),
        lambda: ("put", sub(), few(lambda r, d: (random.choice(("=>", ":=")), expression(r, d), expression(r, d)),
                                   random, depth, 1)),
        lambda: ("match", pattern(random, 2), sub()), lambda: ("send", sub(), sub()),
        lambda: ("op", random.choice(("-", "not", "bnot")), (sub(),)),
        lambda: ("op", random.choice(SIGNS), (sub(), sub())), lambda: ("op", random.choice(SIGNS), (sub(), sub())),
        lambda: ("op", random.choice(SIGNS), (sub(), sub())),
        lambda: ("both", sub(), sub()), lambda: ("either", sub(), sub()),
        lambda: ("built", "setelement", (sub(), sub(), sub())), lambda: ("built", "self", ()),
        lambda: ("call", "f", few(expression, random, depth)), lambda: ("call", "end", ()),
        lambda: ("outer", sub(), sub(), few(expression, random, depth)),
        lambda: ("apply", sub(), few(expression, random, depth)),
        lambda: ("fun", clauses(random, depth, many)), lambda: ("named", "F", clauses(random, depth, many)),
        lambda: ("do", body(random, depth)), lambda: ("case", sub(), clauses(random, depth)),
        lambda: ("if", clauses(random, depth, 0, 1)), lambda: ("receive", clauses(random, depth), ()),
        lambda: ("receive", few(lambda r, d: clause(r, d), random, depth), (sub(), body(random, depth))),
        lambda: ("try", body(random, depth), few(lambda r, d: clause(r, d), random, depth),
                 few(caught, random, depth, 1), random.choice(((), body(random, depth)))),
        lambda: ("try", body(random, depth), few(lambda r, d: clause(r, d), random, depth), (), body(random, depth)),
        lambda: ("catch", sub()), lambda: ("list", sub(), few(way, random, depth, 1)),
    ]
    return random.choice(made)()
