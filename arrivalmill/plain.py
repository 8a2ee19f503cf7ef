"""What a program means: patterns held against terms, guards, and what calls come to, worked out plainly."""

from arrivalmill.errors import BadBook, BadGuard, BadPattern, BadTerm, BadTerms, Undefined
from arrivalmill.forms import is_guard, is_pattern
from arrivalmill.holding import names_behind
from arrivalmill.looker import is_sound
from arrivalmill.naming import dict_of_names, row_of_names
from arrivalmill.preparing import program_of
from arrivalmill.reading import Module
from arrivalmill.reckoning import guard_lets
from arrivalmill.running import Life, answered_full, begun_state, gone_on
from arrivalmill.terms import is_term

FIRST = ("pid", ())
MOST_MODULES = 6


def held(pattern, term, names):
    """The names with all that a pattern binds, held against a term; None if it does not fit."""
    if not is_pattern(pattern):
        raise BadPattern(pattern)
    if not is_term(term):
        raise BadTerm(term)
    ahead = dict_of_names(names)
    found = names_behind((pattern,), (term,), ahead, ahead)
    return None if found is None else row_of_names(found)


def lets(guard, names):
    """Whether a guard lets in the first process."""
    if not is_guard(guard):
        raise BadGuard(guard)
    return guard_lets(guard, dict_of_names(names), FIRST)


def worth(modules, module, function, terms):
    """What a call comes to in the first process: a term, what it raises, or the first word of its first look."""
    if not is_book(modules):
        raise BadBook(modules)
    if not isinstance(terms, tuple) or not all([is_term(term) for term in terms]):
        raise BadTerms(terms)
    if not _exports(modules, module, function, len(terms)):
        raise Undefined((module, function, len(terms)))
    return worth_in(book_of(modules), module, function, terms)


def is_book(value):
    """Whether any value is a tuple of one to six sound Modules of unlike names."""
    if not isinstance(value, tuple) or not 1 <= len(value) <= MOST_MODULES:
        return False
    names = []
    for module in value:
        if not isinstance(module, Module) or module.name in names or not is_sound(module):
            return False
        names.append(module.name)
    return True


def _exports(modules, name, function, many):
    for module in modules:
        if module.name == name and (function, many) in module.exports:
            return True
    return False


def book_of(modules):
    """The programs of modules, each being there as edition 1."""
    return {(one.name, 1): program_of(one) for one in modules}


def worth_in(book, module, function, terms):
    """Goes on through full calls, among the programs of a book, up to the end or the first other look."""
    life = Life((), book)
    state = begun_state(module, function, terms)
    while state[0] == "asks" and state[1] == "full":
        name, word, parts = state[2]
        there = (name, 1) in book and (word, len(parts)) in book[(name, 1)].exports
        state = gone_on(life, answered_full(life, state, 1 if there else 0))
    if state[0] == "done":
        return ("value", state[1])
    if state[0] == "lost":
        return ("raise", state[1], state[2])
    return ("look", _receive_word(state[2][1]) if state[1] == "receive" else state[1])


def _receive_word(time):
    """The first word of the look of a receive with this time that finds no letter."""
    if time is None:
        return "receive"
    return "wait" if time > 0 else "over"
