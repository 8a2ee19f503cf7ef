"""States between plain steps, and what all kinds of steps need.

A state is a tuple that begins with its word:
- ("work", node, scope, stack): this node is worked out next;
- ("came", term, scope, stack): something came to this term, and left this scope behind;
- ("fell", class, reason, stack): something raised;
- ("lap", ..), ("turn", ..): within the ways of a list (lapping.py);
- ("done", term), ("lost", class, reason): the process is at its end;
- ("asks", word, parts, scope, stack): a look comes next.

A scope is (names, here): a dict that is never changed, and (module, edition, function, size), the code that it is in.
A stack is None or (frame, stack); a frame is a tuple that begins with its word.
"""

from arrivalmill.outcomes import is_raise


def state_of(outcome, scope, stack):
    """The state behind an outcome."""
    if is_raise(outcome):
        return ("fell", outcome[1], outcome[2], stack)
    return ("came", outcome, scope, stack)


def fallen(outcome, stack):
    """The state behind an outcome that raises."""
    return ("fell", outcome[1], outcome[2], stack)


def worked(node, scope, frame, stack):
    """The state that works out a node, behind which a frame waits."""
    return ("work", node, scope, (frame, stack))


def body_state(nodes, scope, stack):
    """The state that works out a body: behind its last node nothing of it waits."""
    if len(nodes) == 1:
        return ("work", nodes[0], scope, stack)
    return ("work", nodes[0], scope, (("body", nodes[1:]), stack))
