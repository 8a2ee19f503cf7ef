"""Which look a function asks for: its first word, or None if its arguments cannot be as asked."""

from arrivalmill.outcomes import is_truth
from arrivalmill.shapes import is_kind, is_list


def look_word(name, terms):
    """The first word of the look that a function of these terms does; None if it raises badarg ahead of it."""
    check = CHECKS[name]
    return WORDS[name] if check(terms) else None


def sends_to(term):
    """Whether a letter can be sent to this."""
    return is_kind(term, "pid") or isinstance(term, str)


def _is_time(term):
    return isinstance(term, int) and term >= 0


def _nothing(_terms):
    return True


def _process(terms):
    return is_kind(terms[0], "pid")


def _reference(terms):
    return is_kind(terms[0], "ref")


def _name(terms):
    return isinstance(terms[0], str)


def _begin(terms):
    if len(terms) == 1:
        return is_kind(terms[0], "fun") and terms[0][3] == 0
    return isinstance(terms[0], str) and isinstance(terms[1], str) and is_list(terms[2])


def _watch(terms):
    return terms[0] == "process" and sends_to(terms[1])


def _unwatch(terms):
    return is_kind(terms[0], "ref") and (len(terms) == 1 or terms[1] == ("list", "flush"))


def _flag(terms):
    return terms[0] == "trap_exit" and is_truth(terms[1])


def _give(terms):
    return isinstance(terms[0], str) and is_kind(terms[1], "pid")


def _load(terms):
    return isinstance(terms[0], str) and isinstance(terms[1], int)


def _timer(terms):
    return _is_time(terms[0]) and is_kind(terms[1], "pid")


CHECKS = {
    "monotonic_time": _nothing, "link": _process, "unlink": _process, "unregister": _name, "whereis": _name,
    "cancel_timer": _reference, "purge": _name, "soft_purge": _name, "delete": _name, "monitor": _watch,
    "exit": _process, "process_flag": _flag, "register": _give, "load": _load, "send_after": _timer,
    "start_timer": _timer, "demonitor": _unwatch, "spawn": _begin, "spawn_link": _begin, "spawn_monitor": _begin,
}

WORDS = {
    "monotonic_time": "clock", "link": "tie", "unlink": "untie", "unregister": "free", "whereis": "who",
    "cancel_timer": "cancel", "purge": "purge", "soft_purge": "soft", "delete": "delete", "monitor": "watch",
    "exit": "exit", "process_flag": "trap", "register": "give", "load": "load", "send_after": "timer",
    "start_timer": "timer", "demonitor": "unwatch", "spawn": "begin", "spawn_link": "begin", "spawn_monitor": "begin",
}
