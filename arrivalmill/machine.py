"""The machine: one process that goes by rows of code."""

from arrivalmill.coderuns import CodeMind
from arrivalmill.errors import BadCodes
from arrivalmill.rows import Code
from arrivalmill.single import doer_at, lived, want_life
from arrivalmill.stores import PlainStore

MOST_CODES = 6


def coded_alone(codes, path, start, signals, answers):
    """What one process does by its code that begins by this full call: (looks, end)."""
    return _lived(codes, path, start, signals, answers)[1]


def stand(codes, path, start, signals, answers):
    """How this process stands when there is nothing left to do."""
    mind, _ = _lived(codes, path, start, signals, answers)
    doer, run = mind.doer, mind.run
    if doer.ended:
        return ("ended", doer.story[-1][1])
    if not run.began:
        return ("begins",)
    if doer.there is not None and doer.there[0] == "took":
        run = doer.there[2]
    return run.stand()


def _lived(codes, path, start, signals, answers):
    want_codes(codes)
    want_life(path, start, signals, answers)
    doer = doer_at(path)
    mind = CodeMind(codes, PlainStore(), doer)
    return mind, lived(doer, mind, start, signals, answers)


def want_codes(value):
    """Raises BadCodes for what is no tuple of one to six Codes of unlike names."""
    if not isinstance(value, tuple) or not 1 <= len(value) <= MOST_CODES:
        raise BadCodes(value)
    names = []
    for code in value:
        if not isinstance(code, Code) or code.name in names:
            raise BadCodes(value)
        names.append(code.name)
