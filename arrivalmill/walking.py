"""Goes through forms by the rules of what names hold, and notes how names stand in them.

A scope is a dict: for each name that is bound or unsafe, (whether it is bound, the numbers of its bindings).
No scope is ever changed: what binds makes a new one.
"""

from arrivalmill.forms import cons_parts, names_in


class Walk:
    """A walk through forms: the bindings that it met, and what is to be told of names and calls."""

    def __init__(self):
        self.bindings = []
        self.used = []
        self.told = {}
        self.calls = []
        self.bound_at_funs = {}

    def bind(self, name):
        """A new binding of a name: how it stands in a scope."""
        self.bindings.append(name)
        self.used.append(False)
        return (True, (len(self.used) - 1,))

    def bind_own(self, name):
        """A new binding of a fun's own name, of which it does not matter whether it is used."""
        self.bindings.append(None)
        self.used.append(True)
        return (True, (len(self.used) - 1,))

    def tell(self, word, name):
        """Notes that there is this to be told of a name."""
        self.told[(word, name)] = True

    def stand(self, name, scope):
        """Notes that a name stands where it is bound or unsafe."""
        sure, numbers = scope[name]
        for number in numbers:
            self.used[number] = True
        if not sure:
            self.tell("unsafe", name)

    def use(self, name, scope):
        """Notes that a name is used in an expression, a test or a key."""
        if name in scope:
            self.stand(name, scope)
        else:
            self.tell("unbound", name)

    def patterns(self, patterns, scope, ahead):
        """The scope behind patterns, whose keys see what stands in ahead."""
        names, keys = names_in(patterns)
        for key in keys:
            self.use(key, ahead)
        found = dict(scope)
        for name in names:
            if name in found:
                self.stand(name, found)
            else:
                found[name] = self.bind(name)
        return found

    def fresh(self, patterns, scope):
        """The scope behind patterns that bind anew."""
        names, _ = names_in(patterns)
        kept = {}
        for name in scope:
            if name in names:
                self.tell("hidden", name)
            else:
                kept[name] = scope[name]
        return self.patterns(patterns, kept, scope)

    def through(self, form, scope):
        """The scope behind an expression (or, in what holds names, a pattern)."""
        if form[0] not in STEPS:
            return scope
        step = STEPS[form[0]]
        return step(self, form, scope)

    def parts(self, forms, scope):
        """The scope behind parts that each see what is bound ahead of all; what two of them bind is unsafe."""
        new = {}
        for form in forms:
            behind = self.through(form, scope)
            for name in _news(behind, scope):
                new[name] = _unsafe(new[name], behind[name]) if name in new else behind[name]
        return {**scope, **new}

    def body(self, forms, scope):
        """The scope behind expressions of which each sees what those ahead bound."""
        for form in forms:
            scope = self.through(form, scope)
        return scope

    def guarded(self, guard, forms, scope):
        """The scope behind a guard and a body."""
        for tests in guard:
            self.parts(tests, scope)
        return self.body(forms, scope)

    def clause(self, clause, scope):
        """The scope behind a clause, whose patterns bind what is not bound ahead."""
        patterns, guard, forms = clause
        return self.guarded(guard, forms, self.patterns(patterns, scope, scope))

    def fresh_clause(self, clause, scope):
        """Goes through a clause of a fun."""
        patterns, guard, forms = clause
        self.guarded(guard, forms, self.fresh(patterns, scope))

    def note_fun(self, form, scope):
        """Notes what is bound where a fun is made; programs give each fun its number as a last part."""
        if isinstance(form[-1], int):
            self.bound_at_funs[form[-1]] = [name for name in scope if scope[name][0]]


def _news(behind, scope):
    return [name for name in behind if name not in scope]


def _numbers_of(one, other):
    """The numbers of bindings of two standings of a name."""
    return one[1] + tuple(number for number in other[1] if number not in one[1])


def _unsafe(one, other):
    """How a name stands that two parts bind."""
    return (False, _numbers_of(one, other))


def _behind_arms(scope, arms):
    """The scope behind arms of which one is gone through: what not all of them bind is unsafe."""
    new = {}
    for behind in arms:
        for name in _news(behind, scope):
            everywhere = all([name in arm and arm[name][0] for arm in arms])
            numbers = _numbers_of(new[name], behind[name]) if name in new else behind[name][1]
            new[name] = (everywhere, numbers)
    return {**scope, **new}


def _behind_perhaps(scope, behind):
    """The scope behind what may not have been gone through to its end: all that it binds is unsafe."""
    new = {name: (False, behind[name][1]) for name in _news(behind, scope)}
    return {**scope, **new}


def _name(walk, form, scope):
    walk.use(form[1], scope)
    return scope


def _tuple(walk, form, scope):
    return walk.parts(form[1], scope)


def _cons(walk, form, scope):
    parts, end = cons_parts(form)
    return walk.parts([*parts, end], scope)


def _map(walk, form, scope):
    return walk.parts([part for row in form[1] for part in row], scope)


def _put(walk, form, scope):
    return walk.parts([form[1], *[part for row in form[2] for part in row[1:]]], scope)


def _two(walk, form, scope):
    return walk.parts(form[1:], scope)


def _behind_word(walk, form, scope):
    return walk.parts(form[2], scope)


def _call(walk, form, scope):
    walk.calls.append((form[1], len(form[2])))
    return walk.parts(form[2], scope)


def _local(walk, form, scope):
    walk.calls.append((form[1], form[2]))
    return scope


def _outer(walk, form, scope):
    return walk.parts([form[1], form[2], *form[3]], scope)


def _apply(walk, form, scope):
    return walk.parts([form[1], *form[2]], scope)


def _match(walk, form, scope):
    behind = walk.through(form[2], scope)
    return walk.patterns([form[1]], behind, behind)


def _left_first(walk, form, scope):
    left = walk.through(form[1], scope)
    return _behind_perhaps(left, walk.through(form[2], left))


def _fun(walk, form, scope):
    walk.note_fun(form, scope)
    for clause in form[1]:
        walk.fresh_clause(clause, scope)
    return scope


def _named(walk, form, scope):
    walk.note_fun(form, scope)
    own = form[1]
    if own in scope:
        walk.tell("hidden", own)
    within = {**scope, own: walk.bind_own(own)}
    for clause in form[2]:
        walk.fresh_clause(clause, within)
    return scope


def _do(walk, form, scope):
    return walk.body(form[1], scope)


def _case(walk, form, scope):
    behind = walk.through(form[1], scope)
    return _behind_arms(behind, [walk.clause(clause, behind) for clause in form[2]])


def _if(walk, form, scope):
    return _behind_arms(scope, [walk.clause(clause, scope) for clause in form[1]])


def _receive(walk, form, scope):
    arms = [walk.clause(clause, scope) for clause in form[1]]
    if form[2]:
        time, forms = form[2]
        arms.append(walk.body(forms, walk.through(time, scope)))
    return _behind_arms(scope, arms)


def _try(walk, form, scope):
    _, forms, clauses, caught, after = form
    behind = walk.body(forms, scope)
    for clause in clauses:
        walk.clause(clause, behind)
    for clause in caught:
        walk.clause(clause, scope)
    walk.body(after, scope)
    return scope


def _catch(walk, form, scope):
    return _behind_perhaps(scope, walk.through(form[1], scope))


def _list(walk, form, scope):
    within = scope
    for way in form[2]:
        walk.through(way[-1], within)
        if way[0] == "from":
            within = walk.fresh([way[1]], within)
    walk.through(form[1], within)
    return scope


STEPS = {
    "name": _name, "tuple": _tuple, "cons": _cons, "map": _map, "put": _put, "send": _two, "alias": _two,
    "op": _behind_word, "built": _behind_word, "call": _call, "local": _local, "outer": _outer, "apply": _apply,
    "match": _match, "both": _left_first, "either": _left_first, "fun": _fun, "named": _named, "do": _do,
    "case": _case, "if": _if, "receive": _receive, "try": _try, "catch": _catch, "list": _list,
}
