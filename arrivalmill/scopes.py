"""What names hold: which names a form needs, and which are bound or unsafe behind it."""

from arrivalmill.walking import Walk


def held_names(form, bound):
    """Those of some names that stand in a form where they are not bound anew."""
    walk = Walk()
    scope = {name: walk.bind(name) for name in bound}
    walk.through(form, scope)
    used = [name for name in scope if walk.used[scope[name][1][0]]]
    return tuple(sorted(used))


def bound_behind(form, bound):
    """The names that are bound behind an expression, with those bound ahead; and those that are unsafe."""
    walk = Walk()
    scope = {name: walk.bind(name) for name in bound}
    behind = walk.through(form, scope)
    sure = [name for name in behind if behind[name][0]]
    unsafe = [name for name in behind if not behind[name][0]]
    return (tuple(sorted(sure)), tuple(sorted(unsafe)))
