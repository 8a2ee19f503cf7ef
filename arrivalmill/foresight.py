"""Which functions that look a process may still call, and those whom it may begin, as far as their texts tell."""

from arrivalmill.forms import cons_parts
from arrivalmill.having import places
from arrivalmill.tables import looks

# In the place of all functions: it calls what no text tells.
ANY = "any"


class Foresight:
    """For each function (module, name, size), and each fun (module, number), the looking functions it may call."""

    def __init__(self, modules):
        self.words = {}
        self.callees = {}
        for module in modules:
            count = 0
            for name, size, clauses in module.forms[3]:
                key = (module.name, name, size)
                many = self.take(key, clauses)
                for number in range(count, count + many):
                    self.callees.setdefault((module.name, number), []).append(key)
                    self.words.setdefault((module.name, number), {})
                count += many
        self.spread()

    def take(self, key, clauses):
        """Takes in what the clauses of a function call; how many funs stand in them is returned."""
        words, callees = self.words.setdefault(key, {}), self.callees.setdefault(key, [])
        count = 0
        row = [clauses]
        while row:
            value = row.pop()
            if isinstance(value, tuple) and value:
                if value[0] == "fun" or value[0] == "named":
                    count += 1
                if isinstance(value[0], str) and value[0] in TELLS:
                    tell = TELLS[value[0]]
                    tell(value, key[0], words, callees)
                row.extend(list(value))
        return count

    def spread(self):
        """Lets each function call what those call that it calls."""
        is_open = True
        while is_open:
            is_open = False
            for key in list(self.words):
                words = self.words[key]
                size = len(words)
                for callee in self.callees[key]:
                    for other in self.named(callee):
                        words.update(self.words[other])
                is_open = is_open or len(words) > size

    def named(self, callee):
        """The functions that a call may mean: its size is None where the text does not tell it."""
        if callee[-1] is not None:
            return [callee] if callee in self.words else []
        return [key for key in self.words if key[:2] == callee[:2]]

    def words_of(self, doer):
        """The looking functions that a doer may still call, and those whom it may begin."""
        found = {}
        for module, _, function, size in places(doer):
            key = (module, function, size) if isinstance(function, str) else (module, function)
            found.update(self.words.get(key, {}))
        if doer.state[0] == "asks" and doer.state[1] == "full":
            module, name, terms = doer.state[2]
            found.update(self.words.get((module, name, len(terms)), {}))
        return found


def _tell_built(form, _module, words, callees):
    name, parts = form[1], form[2]
    if not looks(name, len(parts)):
        if name == "apply":
            words[ANY] = True
        return
    words[name] = True
    if name in ("spawn", "spawn_link", "spawn_monitor"):
        if len(parts) == 3:
            items, end = cons_parts(parts[2])
            _tell_far(parts[0], parts[1], len(items) if end == ("nil",) else None, words, callees)
        elif parts[0][0] not in ("fun", "named", "local", "far"):
            words[ANY] = True


def _tell_far(module, name, size, words, callees):
    if module[0] == "atom" and name[0] == "atom":
        callees.append((module[1], name[1], size))
    else:
        words[ANY] = True


def _tell_call(form, module, _words, callees):
    callees.append((module, form[1], len(form[2])))


def _tell_outer(form, _module, words, callees):
    _tell_far(form[1], form[2], len(form[3]), words, callees)


def _tell_apply(_form, _module, words, _callees):
    words[ANY] = True


def _tell_local(form, module, _words, callees):
    callees.append((module, form[1], form[2]))


def _tell_far_fun(form, _module, _words, callees):
    callees.append((form[1], form[2], form[3]))


TELLS = {
    "built": _tell_built, "call": _tell_call, "outer": _tell_outer, "apply": _tell_apply, "local": _tell_local,
    "far": _tell_far_fun,
}
