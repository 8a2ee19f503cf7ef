"""Heads of clauses, and which of them take subjects."""

from arrivalmill.errors import BadHeads, BadHeld, BadNames, BadNumbers, BadSubjects
from arrivalmill.forms import is_pattern, names_in
from arrivalmill.holding import names_behind
from arrivalmill.signs import is_count, is_name
from arrivalmill.terms import is_term

MOST_CLAUSES = 12
MOST_PATTERNS = 4


class Heads:
    """The heads of clauses, among known names."""

    def __init__(self, clauses, known):
        if not are_known(known):
            raise BadNames(known)
        if not isinstance(clauses, tuple) or not 1 <= len(clauses) <= MOST_CLAUSES:
            raise BadHeads(None)
        for number, clause in enumerate(clauses):
            if not _is_clause(clause, known) or len(clause[0]) != len(clauses[0][0]):
                raise BadHeads(number)
        self.cases = clauses
        self.known = known
        self.rows = tuple([clause[0] for clause in clauses])
        self.width = len(self.rows[0])
        self.guards = tuple([len(clause[1]) > 0 for clause in clauses])
        self.binds = tuple([_bound_by(patterns, known) for patterns in self.rows])
        self.right = None

    def __eq__(self, other):
        if not isinstance(other, Heads):
            return False
        return (self.rows, self.guards, self.known) == (other.rows, other.guards, other.known)

    def __len__(self):
        return len(self.cases)


def are_known(value):
    """Whether any value is an ascending tuple of unlike names."""
    if not isinstance(value, tuple) or not all([is_name(name) for name in value]):
        return False
    for one, other in zip(value, value[1:]):
        if not one < other:
            return False
    return True


def _is_clause(value, known):
    """Whether any value is a clause whose patterns have no keys but known ones."""
    if not isinstance(value, tuple) or len(value) != 3 or not all([isinstance(part, tuple) for part in value]):
        return False
    patterns = value[0]
    if len(patterns) > MOST_PATTERNS or not all([is_pattern(pattern) for pattern in patterns]):
        return False
    return all([name in known for name in names_in(patterns)[1]])


def _bound_by(patterns, known):
    """The names that patterns bind, ascending."""
    found = {name: True for name in names_in(patterns)[0] if name not in known}
    return tuple(sorted(list(found)))


def heads_of(module, name, many):
    """The heads of a function, nothing being known."""
    return Heads(module.clauses(name, many), ())


def are_subjects(width, value):
    """Whether any value are subjects of heads of this width."""
    return isinstance(value, tuple) and len(value) == width and all([is_term(term) for term in value])


def are_held(known, value):
    """Whether any value has a term for each known name, in sequence."""
    if not isinstance(value, tuple) or len(value) != len(known):
        return False
    for name, pair in zip(known, value):
        if not isinstance(pair, tuple) or len(pair) != 2 or not isinstance(pair[0], str):
            return False
        if pair[0] != name or not is_term(pair[1]):
            return False
    return True


def are_failing(heads, value):
    """Whether any value is an ascending tuple of numbers of clauses with guards."""
    if not isinstance(value, tuple):
        return False
    least = 0
    for number in value:
        if not is_count(number, least) or number >= len(heads.cases) or not heads.guards[number]:
            return False
        least = number + 1
    return True


def want_subjects(heads, subjects, held):
    """Raises the error for what are no subjects, or no terms of the known names."""
    if not are_subjects(heads.width, subjects):
        raise BadSubjects(subjects)
    if not are_held(heads.known, held):
        raise BadHeld(held)


def names_if_fit(heads, number, subjects, held):
    """The names behind the patterns of a clause, a dict; None if they do not fit."""
    names = {name: term for name, term in held}
    return names_behind(heads.rows[number], subjects, names, names)


def fitting(heads, subjects, held):
    """The numbers of the clauses whose patterns fit."""
    want_subjects(heads, subjects, held)
    numbers = range(len(heads.cases))
    return tuple([number for number in numbers if names_if_fit(heads, number, subjects, held) is not None])


def clause_taken(heads, subjects, held, failing):
    """The first clause that fits and does not fail, with what it binds: (number, names); None without one."""
    want_subjects(heads, subjects, held)
    if not are_failing(heads, failing):
        raise BadNumbers(failing)
    for number in range(len(heads.cases)):
        if number not in failing:
            found = names_if_fit(heads, number, subjects, held)
            if found is not None:
                return (number, tuple([(name, found[name]) for name in heads.binds[number]]))
    return None
