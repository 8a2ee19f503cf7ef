"""The ways of a list: for each term of a way, all that stands behind it.

("lap", node, at, scope, found, stack): the ways from at on are gone through, then what the list is made of is worked
out; found is what has been come to so far, the last one first, as nested pairs. ("turn", found, stack): this is done.
"""

from arrivalmill.holding import names_behind, names_without
from arrivalmill.outcomes import failing_with
from arrivalmill.shapes import has_rest, is_kind, is_list
from arrivalmill.steps import fallen, worked


def list_begun(node, scope, stack):
    """The state that the ways of a list begin with."""
    return ("lap", node, 0, scope, None, (("listed", scope), stack))


def lapped(_life, state):
    """The state behind a lap."""
    _, node, at, scope, found, stack = state
    ways = node[2]
    if at == len(ways):
        return worked(node[1], scope, ("found", found), stack)
    return worked(ways[at][1], scope, ("way", node, at, scope, found), stack)


def turned(_life, state):
    """The state behind the end of a lap: the way that waits goes on with its next part."""
    _, found, stack = state
    frame, rest = stack
    if frame[0] == "listed":
        return ("came", _list_of(found), frame[1], rest)
    _, node, at, scope, term, place = frame
    return _next_part(node, at, scope, term, place, found, rest)


def _list_of(found):
    terms = []
    while found is not None:
        term, found = found
        terms.append(term)
    terms.reverse()
    return ("list", *terms)


def came_to_lap(frame, term, stack):
    """The state behind a term that comes to a frame of this file."""
    if frame[0] == "found":
        return ("turn", (term, frame[1]), stack)
    _, node, at, scope, found = frame
    if node[2][at][0] == "from":
        if not is_list(term) and not is_kind(term, "odd"):
            return fallen(failing_with("bad_generator", term), stack)
        return _next_part(node, at, scope, term, 1, found, stack)
    if term == "true":
        return ("lap", node, at + 1, scope, found, stack)
    if term == "false":
        return ("turn", found, stack)
    return fallen(failing_with("bad_filter", term), stack)


def _next_part(node, at, scope, term, place, found, stack):
    """The state that goes on with the parts of a way's list from a place on."""
    _, _, pattern, hidden = node[2][at]
    names, here = scope
    kept = names_without(names, hidden)
    while has_rest(term, place):
        behind = names_behind((pattern,), (term[place],), kept, names)
        place += 1
        if behind is not None:
            return ("lap", node, at + 1, (behind, here), found, (("from", node, at, scope, term, place), stack))
    if is_list(term):
        return ("turn", found, stack)
    return fallen(failing_with("bad_generator", term[-1]), stack)
