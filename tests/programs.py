"""Sound programs by random, of all kinds of forms; and what a process of them may get from outside."""

from arrivalmill.errors import MillError
from arrivalmill.looker import is_sound
from arrivalmill.printing import show_expression, show_pattern
from arrivalmill.reading import Module, read_expression
from arrivalmill.scopes import bound_behind
from arrivalmill.single import alone

NAMES = ("A", "B", "C", "D", "E", "F")
ATOMS = ("a", "b", "ok", "true", "false", "end", "Big", "m", "infinity")
WORDS = (("+", 2), ("-", 2), ("*", 2), ("div", 2), ("rem", 2), ("==", 2), ("<", 2), (">=", 2), ("=/=", 2), ("++", 2), ("--", 2), ("-", 1), ("not", 1), ("and", 2), ("xor", 2), ("bsl", 2))
PURE = (("hd", 1), ("tl", 1), ("length", 1), ("tuple_size", 1), ("element", 2), ("setelement", 3), ("abs", 1), ("min", 2), ("max", 2), ("is_atom", 1), ("is_list", 1), ("is_tuple", 1), ("is_boolean", 1),
        ("is_function", 1), ("is_function", 2), ("map_size", 1), ("map_to_list", 1), ("map_remove", 2), ("map_get", 2), ("is_map_key", 2), ("tuple_to_list", 1), ("list_to_tuple", 1), ("self", 0), ("make_ref", 0),
        ("integer_to_list", 1), ("list_to_atom", 1), ("byte_size", 1), ("list_to_binary", 1), ("throw", 1), ("error", 1), ("exit", 1), ("is_pid", 1), ("is_integer", 1))
GUARDED = tuple(row for row in PURE if row[0] in ("hd", "tl", "length", "tuple_size", "element", "abs", "min", "max", "is_atom", "is_list", "is_tuple", "is_boolean", "is_function", "map_size", "map_get", "is_map_key", "self", "is_pid", "is_integer"))


class Maker:
    """Makes forms in which all names that are read are bound."""

    def __init__(self, rng, looks=True):
        self.rng = rng
        self.looks = looks
        self.below = ()
        self.unsafe = ()

    def pick(self, *rows):
        return self.rng.choice(rows)

    def leaf(self, bound):
        names = [lambda: ("name", self.rng.choice(bound))] * 3 if bound else []
        return self.rng.choice([lambda: ("number", self.rng.choice((0, 1, 2, 3, 300))), lambda: ("atom", self.rng.choice(ATOMS)), lambda: ("nil",), lambda: ("bytes", (1, 2)), *names])()

    def pattern(self, bound, depth, ahead, free=True):
        """A pattern; free tells whether it may bind."""
        fresh = [name for name in NAMES if name not in self.unsafe]
        leaves = [lambda: ("number", self.rng.choice((-1, 0, 1, 2))), lambda: ("atom", self.rng.choice(ATOMS)), lambda: ("any",), lambda: ("nil",), lambda: ("bytes", (1, 2))]
        names = [lambda: ("name", self.rng.choice(fresh))] * 6 if free and fresh else []
        if depth <= 0:
            return self.rng.choice(leaves + names)()
        part = lambda: self.pattern(bound, depth - 1, ahead, free)
        key = lambda: self.rng.choice([("number", 1), ("atom", "a"), *[("name", name) for name in ahead[:2]]])
        return self.rng.choice(leaves + names + [lambda: ("tuple", tuple(part() for _ in range(self.rng.randint(0, 3))))] * 2 + [
            lambda: ("cons", part(), part()), lambda: ("cons", part(), ("cons", part(), part())), lambda: ("map", tuple((key(), part()) for _ in range(self.rng.randint(0, 2)))), lambda: ("alias", part(), part())])()

    def test(self, bound, depth):
        if depth <= 0:
            return self.leaf(bound)
        part = lambda: self.test(bound, depth - 1)
        def built(rows):
            name, many = self.rng.choice(rows)
            return ("built", name, tuple(part() for _ in range(many)))
        def op():
            sign, many = self.rng.choice([row for row in WORDS if row[0] not in ("++", "--")])
            return ("op", sign, tuple(part() for _ in range(many)))
        return self.rng.choice([op, op, op, lambda: built(GUARDED), lambda: built(GUARDED), lambda: ("both", part(), part()), lambda: ("either", part(), part()), lambda: ("tuple", (part(),)), lambda: ("cons", part(), part()),
                                lambda: ("map", ((part(), part()),))])()

    def guard(self, bound, least=0):
        if least == 0 and self.rng.random() < 0.6:
            return ()
        rows = [tuple(self.test(bound, 2) for _ in range(self.rng.randint(1, 2))) for _ in range(self.rng.randint(1, 2))]
        if self.rng.random() < 0.4:
            rows.append((("atom", "true"),))
        return tuple(rows)

    def behind(self, form, bound):
        sure, unsafe = bound_behind(form, tuple(bound))
        self.unsafe = tuple(set(self.unsafe) | set(unsafe))
        return [name for name in sure if name not in self.unsafe]

    def body(self, bound, depth, least=1):
        forms = []
        for _ in range(self.rng.randint(least, 2)):
            form = self.expression(bound, depth)
            bound = self.behind(form, bound)
            forms.append(form)
        return tuple(forms)

    def clause(self, bound, depth, many=1, least=0, fresh=False):
        kept = self.unsafe
        names = []
        if fresh:
            # Heads that bind anew: what they hide may be read no more.
            self.unsafe = ()
        patterns = tuple(self.pattern(bound, 2, bound) for _ in range(many))
        if fresh:
            for pattern in patterns:
                names.extend(names_of(pattern))
            inner = sorted(set([name for name in bound if name not in names] + names))
            self.unsafe = tuple(name for name in kept if name not in names)
        else:
            inner = list(bound)
            for pattern in patterns:
                inner = sorted(set(inner + names_of(pattern)))
        told = (patterns, self.guard(inner, least), self.body(inner, depth))
        self.unsafe = kept
        return told

    def clauses(self, bound, depth, many=1, least=0, fresh=False):
        return tuple(self.clause(bound, depth, many, least, fresh) for _ in range(self.rng.randint(1, 3)))

    def kept(self, make):
        """What is bound within stays within."""
        ahead = self.unsafe
        told = make()
        self.unsafe = ahead
        return told

    def parts(self, bound, depth, many):
        return tuple(self.kept(lambda: self.expression(bound, depth)) for _ in range(many))

    def expression(self, bound, depth):
        """An expression."""
        bound = [name for name in bound if name not in self.unsafe]
        if depth <= 0 or self.rng.random() < 0.12 * depth:
            return self.leaf(bound)
        rng, few = self.rng, self.rng.randint(0, 3)
        def word(rows):
            name, many = rng.choice(rows)
            return name, self.parts(bound, depth - 1, many)
        def ways():
            ahead, rows, names = self.unsafe, [], list(bound)
            for _ in range(rng.randint(1, 2)):
                if rng.random() < 0.4:
                    rows.append(("if", self.kept(lambda: rng.choice((("op", "<", self.parts(names, 1, 2)), self.expression(names, 1))))))
                    continue
                inner = self.kept(lambda: rng.choice((self.expression(names, 1), self.list_of(names, depth - 1))))
                outer, self.unsafe = self.unsafe, ()
                pattern = self.pattern(names, 1, names)
                bindings = names_of(pattern)
                names = sorted(set([name for name in names if name not in bindings] + bindings))
                self.unsafe = tuple(name for name in outer if name not in bindings)
                rows.append(("from", pattern, inner))
            told = ("list", self.expression(names, depth - 1), tuple(rows))
            self.unsafe = ahead
            return told
        def put():
            rows = tuple((rng.choice(("=>", ":=")), *self.parts(bound, 1, 2)) for _ in range(rng.randint(1, 3)))
            return ("put", rng.choice((self.kept(lambda: self.expression(bound, depth - 1)), ("map", (self.parts(bound, 0, 2),)))), rows)
        made = [
            lambda: ("tuple", self.parts(bound, depth - 1, few)), lambda: self.list_of(bound, depth), lambda: ("cons", *self.parts(bound, depth - 1, 2)),
            lambda: ("map", tuple(self.parts(bound, depth - 1, 2) for _ in range(few))), put, lambda: self.match(bound, depth), lambda: self.match(bound, depth), lambda: ("op", *word(WORDS)), lambda: ("op", *word(WORDS)),
            lambda: ("built", *word(PURE)), lambda: ("built", *word(PURE)), lambda: (rng.choice(("both", "either")), *self.parts(bound, depth - 1, 2)),
            lambda: ("do", self.body(bound, depth - 1)), lambda: ("case", self.expression(bound, depth - 1), self.clauses(bound, depth - 1)), lambda: ("case", self.expression(bound, depth - 1), self.clauses(bound, depth - 1)),
            lambda: ("if", self.clauses(bound, depth - 1, 0, 1)), lambda: self.caught(bound, depth), lambda: self.caught(bound, depth), lambda: ("catch", self.expression(bound, depth - 1)), ways, ways,
            lambda: self.fun(bound, depth), lambda: self.applied(bound, depth), lambda: self.call(bound, depth), lambda: self.call(bound, depth)]
        if self.looks:
            made += [lambda: self.receive(bound, depth), lambda: self.receive(bound, depth), lambda: ("send", ("built", "self", ()), self.expression(bound, depth - 1)), lambda: self.deed(bound, depth)]
        return self.kept_safe(rng.choice(made), bound)

    def kept_safe(self, make, bound):
        """A form that reads nothing that is not bound; another leaf if it does."""
        ahead = self.unsafe
        form = make()
        self.unsafe = ahead
        return form

    def list_of(self, bound, depth):
        form = self.rng.choice((("nil",), ("nil",), ("nil",), ("atom", "a")))
        for part in self.parts(bound, depth - 1, self.rng.randint(0, 3)):
            form = ("cons", part, form)
        return form

    def match(self, bound, depth):
        inner = self.expression(bound, depth - 1)
        behind = self.behind(inner, bound)
        return ("match", self.pattern(behind, self.rng.randint(0, 2), behind), inner)

    def fun(self, bound, depth):
        many = self.rng.randint(0, 2)
        clauses = self.kept(lambda: self.clauses(bound, depth - 1, many, 0, True))
        own = self.rng.choice(NAMES)
        return ("named", own, clauses) if self.rng.random() < 0.2 else ("fun", clauses)

    def applied(self, bound, depth):
        form = self.fun(bound, depth)
        many = len(form[-1][0][0]) + self.rng.choice((0, 0, 0, 1))
        parts = self.parts(bound, depth - 1, many)
        if self.rng.random() < 0.3:
            told = ("nil",)
            for part in reversed(parts):
                told = ("cons", part, told)
            return ("built", "apply", (form, told))
        return ("apply", form, parts)

    def call(self, bound, depth):
        if not self.below:
            return self.leaf(bound)
        name, many = self.rng.choice(self.below)
        parts = self.parts(bound, depth - 1, many)
        way = self.rng.randint(0, 5)
        if way == 0:
            return ("outer", ("atom", "m"), ("atom", name), parts)
        if way == 1:
            return ("apply", ("local", name, many), parts)
        if way == 2:
            return ("apply", ("far", "m", name, many), parts)
        if way == 3:
            told = self.rng.choice((("nil",), ("nil",), ("nil",), ("number", 1)))
            for part in reversed(parts):
                told = ("cons", part, told)
            return ("built", "apply", (("atom", "m"), ("atom", name), told))
        return ("call", name, parts)

    def caught(self, bound, depth):
        def make():
            body = self.body(bound, depth - 1)
            inner = list(bound)
            for form in body:
                inner = self.behind(form, inner)
            told = self.clauses(inner, depth - 1) if self.rng.random() < 0.4 else ()
            caught = tuple(self.kept(lambda: self.catching(bound, depth - 1)) for _ in range(self.rng.randint(0, 2)))
            after = self.kept(lambda: self.body(bound, depth - 1)) if not caught or self.rng.random() < 0.4 else ()
            return ("try", body, told, caught, after)
        return self.kept(make)

    def catching(self, bound, depth):
        first = self.rng.choice((("atom", "throw"), ("atom", "error"), ("any",), ("name", self.rng.choice([name for name in NAMES if name not in self.unsafe] or ["Z"]))))
        second = self.pattern(bound, self.rng.choice((0, 0, 2)), bound)
        inner = sorted(set(list(bound) + names_of(first) + names_of(second)))
        return ((first, second), self.guard(inner), self.body(inner, depth))

    def receive(self, bound, depth):
        clauses = self.kept(lambda: self.clauses(bound, depth - 1)) if self.rng.random() < 0.85 else ()
        if clauses and self.rng.random() < 0.3:
            return ("receive", clauses, ())
        time = self.rng.choice((("number", 0), ("number", 2), ("atom", "infinity"), ("number", 0), self.expression(bound, 1)))
        return ("receive", clauses, (time, self.body(self.behind(time, bound), depth - 1)))

    def deed(self, bound, depth):
        part = lambda: self.kept(lambda: self.expression(bound, depth - 1))
        own = ("built", "self", ())
        return self.rng.choice((("built", "spawn", (self.fun(bound, 1),)), ("built", "link", (own,)), ("built", "exit", (own, part())), ("built", "process_flag", (("atom", "trap_exit"), part())), ("built", "monotonic_time", ()),
                                ("built", "register", (("atom", "a"), own)), ("send", ("atom", "a"), part()), ("built", "send_after", (("number", 1), own, part())), ("built", "start_timer", (part(), own, part())),
                                ("built", "whereis", (part(),)), ("built", "monitor", (("atom", "process"), own)), ("built", "spawn_monitor", (("fun", (((), (), (part(),)),)),)), ("built", "cancel_timer", (("built", "make_ref", ()),))))


def names_of(pattern):
    """The names that a pattern binds, or asks for."""
    if pattern[0] == "name":
        return [pattern[1]]
    if pattern[0] == "map":
        return [name for _, part in pattern[1] for name in names_of(part)]
    if pattern[0] == "tuple":
        return [name for part in pattern[1] for name in names_of(part)]
    return [name for part in pattern[1:] if isinstance(part, tuple) for name in names_of(part)] if pattern[0] in ("cons", "alias") else []


def text_of(functions):
    """The text of a module m with these functions (name, many, clauses), all of them exported."""
    lines = ["-module(m).", "-export([" + ", ".join(name + "/" + str(many) for name, many, _ in functions) + "])."]
    for name, _, clauses in functions:
        rows = []
        for patterns, guard, body in clauses:
            head = name + "(" + ", ".join(show_pattern(one) for one in patterns) + ")"
            if guard:
                head += " when " + "; ".join(", ".join(show_expression(one) for one in tests) for tests in guard)
            rows.append(head + " -> " + ", ".join(show_expression(one) for one in body))
        lines.append("; ".join(rows) + ".")
    return "\n".join(lines)


def drawn_module(rng, depth=3, looks=True):
    """A sound module m by random, whose functions f/0, g/1, h/2 call those behind them."""
    while True:
        maker = Maker(rng, looks)
        functions = []
        below = [("g", 1), ("h", 2)]
        for name, many in (("f", 0), *below):
            maker.below = tuple(row for row in below if row[0] > name)
            maker.unsafe = ()
            functions.append((name, many, tuple(clause_of(maker, many, depth) for _ in range(1 if many == 0 else 2))))
        text = text_of(functions)
        try:
            module = Module(text)
        except MillError:
            continue
        if len(text) < 6000 and is_sound(module):
            return module


def clause_of(maker, many, depth):
    """A clause of a function whose body does several things, one after the other, whatever they raise."""
    patterns, guard, _ = maker.clause([], 0, many)
    bound = sorted(set(name for pattern in patterns for name in names_of(pattern)))
    body = []
    for _ in range(3 if many == 0 else 2):
        form = maker.expression(bound, depth)
        if maker.rng.random() < 0.93:
            form = ("match", ("name", "R" + str(len(body))), ("catch", form))
        if maker.looks and maker.rng.random() < 0.5:
            form = ("send", ("built", "self", ()), form)
        bound = maker.behind(form, bound)
        body.append(form)
    told = ("tuple", tuple(("name", name) for name in bound))
    # What all names that are bound stand for is told by the reason of the end, or by the worth of the call.
    body.append(("built", "exit", (told,)) if many == 0 else told)
    return (patterns, guard, tuple(body))


def lived(rng, modules, path, start, signals, most=60):
    """What a process gets that is led on by answers by random: (signals that come to it, answers, what it does)."""
    answers, got = (), 0
    while True:
        try:
            looks, end = alone(modules, path, start, signals[:got], answers)
        except MillError as error:
            return signals[:got], answers, (type(error).__name__, error.value)
        if got < len(signals) and signals[got][2] <= len(looks) and end[0] != "ended":
            got += 1
        elif end[0] == "asks" and len(answers) < most:
            answers += (an_answer(rng, end[1]),)
        else:
            return signals[:got], answers, (looks, end)


def an_answer(rng, word):
    if word == "full":
        return 1
    return rng.choice({"send": (None, ("pid", (7,))), "watch": (None, ("pid", (7,))), "give": (True, False), "free": (True, False), "who": ("undefined", ("pid", (7,))), "clock": (0, 3), "cancel": (None, 2)}.get(word, ("ok",)))


def drawn_signals(rng, path):
    """Signals by random that come to a process ahead of its first looks."""
    rows, place = [], 0
    for _ in range(rng.randint(0, 8)):
        place += rng.choice((0, 0, 1, 2))
        letter = ("letter", rng.choice((1, 2, "a", "ok", ("tuple", 1, 2), ("list", 1), ("tuple",), ("map", ("a", 1)))))
        rows.append(rng.choice((((9,), letter, place), ((9,), letter, place), ((9,), letter, place), ("clock", ("over", rng.randint(0, 2)), place), ((9,), ("exit", rng.choice(("normal", "x")), False, 0), place))))
    return tuple(row for row in rows if row[0] != path)


def expression_of(text):
    """The form of an expression's text."""
    return read_expression(text)
