"""Outcomes: what is worked out comes to a term, or raises: ("raise", class, reason), which is no term."""


def failing(reason):
    """The outcome that raises an error with this reason."""
    return ("raise", "error", reason)


def failing_with(word, term):
    """The outcome that raises an error with a reason of a word and a term."""
    return ("raise", "error", ("tuple", word, term))


def is_raise(outcome):
    """Whether an outcome raises."""
    return isinstance(outcome, tuple) and outcome[0] == "raise"


def truth(value):
    """The atom of a bool."""
    return "true" if value else "false"


def is_truth(term):
    """Whether a term is true or false."""
    return term == "true" or term == "false"
