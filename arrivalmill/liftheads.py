"""Code of patterns, guards and clauses."""

from arrivalmill.forms import cons_parts

KIND_TESTS = {
    "is_atom": "atom", "is_boolean": "boolean", "is_integer": "integer", "is_number": "integer", "is_tuple": "tuple",
    "is_map": "map", "is_binary": "bytes", "is_pid": "pid", "is_reference": "reference", "is_function": "fun",
}
# For each comparison the row that does it, and whether its sides change places.
COMPARISONS = {
    "==": ("same", False), "=:=": ("same", False), "/=": ("unlike", False), "=/=": ("unlike", False),
    "<": ("less", False), "=<": ("atmost", False), ">": ("less", True), ">=": ("atmost", True),
}


class Matching:
    """Patterns as they are held against sources: names is what they bind, ahead what was bound ahead of them all.

    What does not fit goes on at the label miss.
    """

    def __init__(self, sheet, names, ahead, miss):
        self.sheet = sheet
        self.names = {name: names[name] for name in names}
        self.ahead = ahead
        self.miss = miss

    def match(self, pattern, source):
        """Holds a pattern against a source."""
        word = pattern[0]
        if word == "name":
            self.match_name(pattern[1], source)
        elif word in CONSTANTS:
            make = CONSTANTS[word]
            self.sheet.write("same", self.miss, source, self.sheet.constant(make(pattern)))
        elif word == "alias":
            self.match(pattern[1], source)
            self.match(pattern[2], source)
        elif word != "any":
            self.match_parts(pattern, source)

    def match_name(self, name, source):
        """A name that is bound asks for its worth, any other one is bound."""
        if name in self.names:
            self.sheet.write("same", self.miss, source, self.names[name])
        else:
            self.names[name] = self.sheet.slots.home(name)
            self.sheet.write("move", source, self.names[name])

    def match_parts(self, pattern, source):
        """Holds the parts of a pattern against those of a source, which is never a constant: it may have none."""
        slot = self.sheet.slots.take()
        if source[0] == "c":
            self.sheet.write("move", source, slot)
            source = slot
        if pattern[0] == "tuple":
            self.match_tuple(pattern[1], source)
        elif pattern[0] == "map":
            self.match_map(pattern[1], source)
        else:
            self.match_cons(pattern, source, slot)
        self.sheet.slots.give_back([slot])

    def match_tuple(self, parts, source):
        """Holds patterns against the parts of a tuple."""
        self.sheet.write("size", self.miss, source, len(parts))
        for number, part in enumerate(parts):
            if part[0] != "any":
                self.match_taken(part, ("part", source, number))

    def match_cons(self, pattern, source, slot):
        """Holds patterns against the parts of a list; its rests stand in a slot."""
        parts, end = cons_parts(pattern)
        for number, part in enumerate(parts):
            self.sheet.write("test", "cell", self.miss, source)
            if part[0] != "any":
                self.match_taken(part, ("head", source))
            if number + 1 < len(parts) or end[0] != "any":
                self.sheet.write("tail", source, slot)
                source = slot
        self.match(end, source)

    def match_map(self, rows, source):
        """Holds patterns against what a map has at keys."""
        self.sheet.write("test", "map", self.miss, source)
        for key, part in rows:
            known = self.ahead[key[1]] if key[0] == "name" else self.sheet.constant(key[1])
            self.match_taken(part, ("key", self.miss, source, known))

    def match_taken(self, pattern, words):
        """Holds a pattern against what a row of these words takes."""
        if pattern[0] == "name" and pattern[1] not in self.names:
            slot = self.sheet.slots.home(pattern[1])
            self.names[pattern[1]] = slot
            self.sheet.write(*words, slot)
        else:
            slot = self.sheet.slots.take()
            self.sheet.write(*words, slot)
            self.match(pattern, slot)
            self.sheet.slots.give_back([slot])


def _literal(pattern):
    return pattern[1]


def _bytes(pattern):
    return ("bytes", *pattern[1])


def _nil(_pattern):
    return ("list",)


CONSTANTS = {"number": _literal, "atom": _literal, "bytes": _bytes, "nil": _nil}


def lift_guard(lift, guard, env, fail):
    """A guard, which goes on at the label fail if it does not let."""
    if not guard:
        return
    sheet = lift.sheet
    taken = sheet.label()
    for number, tests in enumerate(guard):
        further = fail if number + 1 == len(guard) else sheet.label()
        for test in tests:
            _lift_test(lift, test, env, further)
        if further != fail:
            sheet.jump(taken)
            sheet.mark(further)
    sheet.mark(taken)


def _lift_test(lift, test, env, fail):
    """A test, which goes on at the label fail unless it comes to true."""
    sheet = lift.sheet
    sheet.guarding = fail
    slots = []
    if test[0] == "op" and test[1] in COMPARISONS:
        word, is_turned = COMPARISONS[test[1]]
        sources, _ = lift.sources([("plain", part) for part in test[2]], env, slots)
        if is_turned:
            sources.reverse()
        sheet.write(word, fail, *sources)
    elif test[0] == "built" and test[1] in KIND_TESTS and len(test[2]) == 1:
        source, _ = lift.source(("plain", test[2][0]), env, slots)
        sheet.write("test", KIND_TESTS[test[1]], fail, source)
    else:
        source, _ = lift.source(("plain", test), env, slots)
        sheet.write("same", fail, source, sheet.constant("true"))
    sheet.slots.give_back(slots)
    sheet.guarding = None


def lift_clauses(lift, clauses, sources, env, dest, words):
    """Clauses that are tried one after the other; where none is taken, a row of these words raises."""
    sheet = lift.sheet
    end = sheet.label()
    behind = env
    for patterns, guard, body, hidden in clauses:
        fail = sheet.label()
        names = {name: env[name] for name in env if name not in hidden}
        for pattern, source in zip(patterns, sources):
            names = lift.matched(pattern, source, names, env, fail)
        lift_guard(lift, guard, names, fail)
        behind = {**behind, **lift.body(body, names, dest)}
        if dest is not None:
            sheet.jump(end)
        sheet.mark(fail)
    sheet.write(*words)
    if dest is not None:
        sheet.mark(end)
    return behind


def with_nothing_hidden(clauses):
    """Clauses that hide no names."""
    return [(*clause, ()) for clause in clauses]


def lift_case(lift, node, env, dest):
    """The first clause that takes what is looked at."""
    taken = []
    source, env = lift.source(node[1], env, taken)
    behind = lift_clauses(lift, with_nothing_hidden(node[2]), [source], env, dest, ("fail", "case_clause", source))
    lift.sheet.slots.give_back(taken)
    return behind


def lift_if(lift, node, env, dest):
    """The first clause whose guard lets."""
    return lift_clauses(lift, with_nothing_hidden(node[1]), [], env, dest, ("fail", "if_clause"))
