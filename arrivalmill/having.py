"""What a process has: the places of code at which it stands, and the terms that it has in reach.

A process reaches the worths of names that are still to be read on some way of the text. So its stack is gone through
from the innermost frame on, with the names as each frame sees them; names that a frame will bind are not bound yet.
"""

from arrivalmill.forms import cons_parts, names_in
from arrivalmill.shapes import is_kind
from arrivalmill.terms import inner_terms


def holds(doer, module, edition):
    """Whether a doer holds an edition of a module."""
    for place in places(doer):
        if place[:2] == (module, edition):
            return True
    for term in terms_had(doer):
        for inner in inner_terms(term):
            if is_kind(inner, "fun") and (inner[1], inner[4]) == (module, edition):
                return True
    return False


def _is_at_end(doer):
    return doer.ended or (doer.there is not None and doer.there[0] == "end")


def places(doer):
    """The places (module, edition, function, size) at which a doer stands, from the innermost one on."""
    if _is_at_end(doer):
        return ()
    _, _, _, scope, stack = doer.state
    found = [scope[1]]
    while stack is not None:
        frame, stack = stack
        if frame[0] == "back":
            found.append(frame[1][1])
    return tuple([here for here in found if here is not None])


def terms_had(doer):
    """All terms that a doer has."""
    terms = list(doer.box)
    if _is_at_end(doer):
        return terms
    _, word, parts, scope, stack = doer.state
    reach = Reach(terms, scope[0])
    if word == "receive":
        clauses, _, body, behind = parts
        reach.read_clauses(clauses)
        reach.names = behind[0]
        reach.read_nodes(body)
    elif word == "full":
        terms.extend(parts[2])
    else:
        terms.extend(parts)
    while stack is not None:
        frame, stack = stack
        if frame[0] in TAKES:
            take = TAKES[frame[0]]
            take(reach, frame)
    return terms


class Reach:
    """The terms that were come to so far, and the names as they are bound at the frame that is gone through."""

    def __init__(self, terms, names):
        self.terms = terms
        self.names = names

    def read_names(self, names):
        """Takes the worths of those of these names that are bound."""
        for name in names:
            if name in self.names:
                self.terms.append(self.names[name])

    def read_nodes(self, nodes):
        """Takes the worths of all names that nodes read."""
        for node in nodes:
            self.read_names(names_read(node))

    def read_clauses(self, clauses):
        """Takes the worths of all names that clauses read."""
        self.read_names(_names_of_clauses(clauses))

    def read_found(self, found):
        """Takes what a list has come to so far."""
        while found is not None:
            term, found = found
            self.terms.append(term)


def _parts(reach, frame):
    _, node, done, scope, names = frame
    reach.terms.extend(done)
    behind = {**names, **reach.names}
    reach.names = scope[0]
    reach.read_nodes(node[1][len(done) + 1:])
    reach.names = behind


def _body(reach, frame):
    reach.read_nodes(frame[1])


def _scope(reach, frame):
    reach.names = frame[1][0]


def _match(reach, frame):
    reach.read_names(_names_of_patterns([frame[1]]))


def _left(reach, frame):
    reach.read_nodes([frame[1][2]])


def _case(reach, frame):
    reach.read_clauses(frame[1])


def _time(reach, frame):
    _, clauses, body, scope = frame
    reach.read_nodes(body)
    behind = reach.names
    reach.names = scope[0]
    reach.read_clauses(clauses)
    reach.names = behind


def _try(reach, frame):
    _, node, scope = frame
    reach.read_clauses(node[2])
    reach.names = scope[0]
    reach.read_clauses(node[3])


def _after(reach, frame):
    _, nodes, scope = frame
    reach.names = scope[0]
    reach.read_nodes(nodes)


def _kept(reach, frame):
    reach.terms.append(frame[1])
    reach.names = frame[2][0]


def _raised(reach, frame):
    reach.terms.append(frame[2])
    reach.names = frame[3][0]


def _way(reach, frame):
    _, node, at, scope, found = frame
    reach.read_found(found)
    reach.names = scope[0]
    reach.read_names(_names_of_ways(node, at, False))


def _found(reach, frame):
    reach.read_found(frame[1])


def _from(reach, frame):
    _, node, at, scope, term, place = frame
    reach.terms.extend(term[place:])
    reach.names = scope[0]
    reach.read_names(_names_of_ways(node, at, False))


TAKES = {
    "parts": _parts, "body": _body, "back": _scope, "right": _scope, "match": _match, "left": _left, "case": _case,
    "time": _time, "catch": _scope, "try": _try, "after": _after, "leave": _scope, "kept": _kept, "raised": _raised,
    "way": _way, "found": _found, "from": _from, "listed": _scope,
}


def names_read(node):
    """The names that stand in a node where it does not bind them anew."""
    word = node[0]
    if word == "plain":
        return _names_of_form(node[1])
    if word in READS:
        read = READS[word]
        return read(node)
    return _names_of_nodes(node[1])


def _names_of_form(form):
    """The names of a form that needs no calls and binds nothing."""
    if form[0] == "name":
        return [form[1]]
    parts, end = cons_parts(form)
    if not parts:
        return _names_of_parts(form[1:])
    names = _names_of_form(end)
    for part in parts:
        names.extend(_names_of_form(part))
    return names


def _names_of_parts(parts):
    """The names in the parts of a form, of which some are tuples of forms, or of rows of these."""
    names = []
    for part in parts:
        if isinstance(part, tuple) and part:
            is_form = isinstance(part[0], str)
            names.extend(_names_of_form(part) if is_form else _names_of_parts(part))
    return names


def _names_of_nodes(nodes):
    return [name for node in nodes for name in names_read(node)]


def _names_of_patterns(patterns):
    names, keys = names_in(patterns)
    return [*names, *keys]


def _names_of_clauses(clauses):
    names = []
    for patterns, guard, nodes in clauses:
        names.extend(_names_of_patterns(patterns))
        names.extend(_names_of_parts(guard))
        names.extend(_names_of_nodes(nodes))
    return names


def _names_of_ways(node, at, is_whole):
    """The names that a list's ways from at on, and what it is made of, read; of the first way its own part, or not."""
    hidden, names = [], []
    for number, way in enumerate(node[2][at:]):
        read = names_read(way[1]) if number > 0 or is_whole else []
        if way[0] == "from":
            read.extend(names_in([way[2]])[1])
        names.extend([name for name in read if name not in hidden])
        if way[0] == "from":
            hidden.extend(way[3])
    names.extend([name for name in names_read(node[1]) if name not in hidden])
    return names


def _read_match(node):
    return [*names_read(node[1]), *_names_of_patterns([node[2]])]


def _read_left(node):
    return _names_of_nodes(node[1:])


def _read_fun(node):
    return list(node[3])


def _read_nothing(_node):
    return []


def _read_case(node):
    return [*names_read(node[1]), *_names_of_clauses(node[2])]


def _read_if(node):
    return _names_of_clauses(node[1])


def _read_receive(node):
    names = _names_of_clauses(node[1])
    if node[2]:
        names.extend(names_read(node[2][0]))
        names.extend(_names_of_nodes(node[2][1]))
    return names


def _read_try(node):
    _, body, told, caught, after = node
    return [*_names_of_nodes(body), *_names_of_clauses(told), *_names_of_clauses(caught), *_names_of_nodes(after)]


def _read_catch(node):
    return names_read(node[1])


def _read_list(node):
    return _names_of_ways(node, 0, True)


READS = {
    "match": _read_match, "both": _read_left, "either": _read_left, "fun": _read_fun, "local": _read_nothing,
    "far": _read_nothing, "case": _read_case, "if": _read_if, "receive": _read_receive, "try": _read_try,
    "catch": _read_catch, "list": _read_list,
}
