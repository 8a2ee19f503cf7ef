"""What catches: catch and try, and what is raised to them."""

from arrivalmill.holding import first_taken
from arrivalmill.outcomes import failing_with
from arrivalmill.shapes import NIL
from arrivalmill.steps import body_state, fallen, worked


def catch_begun(node, scope, stack):
    """The state in which what a catch stands ahead of is worked out."""
    return worked(node[1], scope, ("catch", scope), stack)


def try_begun(node, scope, stack):
    """The state in which a try's body is worked out; what stands behind the try sees the scope ahead of it."""
    end = ("after", node[4], scope) if node[4] else ("leave", scope)
    return body_state(node[1], scope, (("try", node, scope), (end, stack)))


def came_to_try(life, frame, term, scope, stack):
    """The state behind a term that comes to a frame of this file."""
    take = TAKERS[frame[0]]
    return take(life, frame, term, scope, stack)


def _came_to_left(_life, frame, term, _scope, stack):
    return ("came", term, frame[1], stack)


def _came_to_try(life, frame, term, scope, stack):
    clauses = frame[1][2]
    if not clauses:
        return ("came", term, scope, stack)
    found = first_taken(clauses, (term,), scope[0], life.own)
    if found is None:
        return fallen(failing_with("try_clause", term), stack)
    return body_state(found[0], (found[1], scope[1]), stack)


def _came_to_after(_life, frame, term, _scope, stack):
    return body_state(frame[1], frame[2], (("kept", term, frame[2]), stack))


def _came_to_kept(_life, frame, _term, _scope, stack):
    return ("came", frame[1], frame[2], stack)


def _came_to_raised(_life, frame, _term, _scope, stack):
    return ("fell", frame[1], frame[2], stack)


TAKERS = {
    "catch": _came_to_left, "leave": _came_to_left, "try": _came_to_try, "after": _came_to_after,
    "kept": _came_to_kept, "raised": _came_to_raised,
}


def fell(life, state):
    """The state behind what is raised: frames go, up to the first one that catches, or has an after."""
    _, word, reason, stack = state
    while stack is not None:
        frame, stack = stack
        if frame[0] == "catch":
            return ("came", _caught(word, reason), frame[1], stack)
        if frame[0] == "after":
            return body_state(frame[1], frame[2], (("raised", word, reason, frame[2]), stack))
        if frame[0] == "try":
            found = first_taken(frame[1][3], (word, reason), frame[2][0], life.own)
            if found is not None:
                return body_state(found[0], (found[1], frame[2][1]), stack)
    return ("lost", word, reason)


def _caught(word, reason):
    """What a catch comes to."""
    if word == "throw":
        return reason
    return ("tuple", "EXIT", reason if word == "exit" else ("tuple", reason, NIL))
