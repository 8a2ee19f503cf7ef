"""Editions of modules: which are there, who holds them, where processes stand; and whether states carry over."""

from arrivalmill.errors import BadModule, BadName, BadTerm, BadTerms, Many, NoProcess, Stuck
from arrivalmill.having import places
from arrivalmill.looker import is_sound
from arrivalmill.order import sorted_terms
from arrivalmill.plain import book_of, worth_in
from arrivalmill.reading import Module
from arrivalmill.sameness import is_among, is_same
from arrivalmill.shapes import is_kind
from arrivalmill.signs import is_atom, is_path
from arrivalmill.terms import is_term
from arrivalmill.termtext import term_text
from arrivalmill.weavings import world_behind
from arrivalmill.world import holders_of

MOST_LETTERS = 6
MOST_STATES = 60


def editions_of(system, weaving):
    """For each name of a module (name, current, old): the editions that are there behind a weaving."""
    standing = world_behind(system, weaving).shelf.standing
    return tuple([(name, standing[name][0], standing[name][1]) for name in sorted(standing)])


def holders(system, weaving, name):
    """The paths of the processes that hold the current, and the old edition of a name."""
    world = world_behind(system, weaving)
    if not is_atom(name):
        raise BadName(name)
    current, old, _ = world.shelf.standing.get(name, (None, None, 0))
    return (holders_of(world, name, current), holders_of(world, name, old))


def places_of(system, weaving, path):
    """The places (name, edition, function, size) at which a process stands, from the innermost one on."""
    world = world_behind(system, weaving)
    if not is_path(path) or path not in world.doers:
        raise NoProcess(path)
    return places(world.doers[path])


def square(old, new, begin, letters):
    """Whether states of an old module's handle carry over to a new one's, by its change."""
    return _square(old, new, begin, letters).found_from(begin)


def shows_square(old, new, begin, letters, value):
    """Whether any value is what may be told of a square."""
    found = _square(old, new, begin, letters)
    told = found.found_from(begin)
    if told[0] == "closes":
        return is_same(told, value)
    if not isinstance(value, tuple) or len(value) != 2 or not is_same("opens", value[0]):
        return False
    return isinstance(value[1], tuple) and len(value[1]) == len(told[1]) and found.opens_behind(begin, value[1])


def _square(old, new, begin, letters):
    """The square of two modules and letters."""
    if not _is_handling(old):
        raise BadModule(old)
    if not _is_handling(new) or new.name != old.name or ("change", 1) not in new.exports:
        raise BadModule(new)
    if not is_term(begin):
        raise BadTerm(begin)
    if not _are_letters(letters):
        raise BadTerms(letters)
    return Square(old, new, letters)


def _is_handling(value):
    return isinstance(value, Module) and is_sound(value) and ("handle", 2) in value.exports


def _are_letters(value):
    """Whether any value is a tuple of one to six unlike terms."""
    if not isinstance(value, tuple) or not 1 <= len(value) <= MOST_LETTERS or not all([is_term(one) for one in value]):
        return False
    return not [number for number, one in enumerate(value) if one in value[:number]]


class Square:
    """Two modules of one name, of which the old one comes from state to state by letters."""

    def __init__(self, old, new, letters):
        self.name = old.name
        self.old = book_of((old,))
        self.new = book_of((new,))
        self.letters = letters

    def found_from(self, begin):
        """What is told of the states to which the old module comes from begin, level by level."""
        known = {term_text(begin): begin}
        level = [((), begin)]
        while level:
            sticks, opens, behind = [], [], []
            for row, state in level:
                for letter in self.letters:
                    word, later = self.closing(state, letter)
                    told = (*row, letter)
                    if word == "sticks":
                        sticks.append(told)
                    elif word == "opens":
                        opens.append(told)
                    else:
                        behind.append((told, later))
            if sticks:
                raise Stuck(sticks[0])
            if opens:
                return ("opens", opens[0])
            level = _unknown(behind, known)
            if len(known) > MOST_STATES:
                raise Many(MOST_STATES)
        return ("closes", tuple(sorted_terms([known[text] for text in known])))

    def opens_behind(self, begin, row):
        """Whether a row is one of these letters at whose last letter it opens."""
        word, state = "closes", begin
        for letter in row:
            if word != "closes" or not is_among(letter, self.letters):
                return False
            word, state = self.closing(state, letter)
        return word == "opens"

    def closing(self, state, letter):
        """Whether it closes, opens or sticks at a state and a letter; and the old module's state behind."""
        old, changed = self.handled(self.old, letter, state), self.changed(state)
        if old is None or changed is None:
            return "sticks", None
        new, later = self.handled(self.new, letter, changed), self.changed(old[2])
        if new is None or later is None:
            return "sticks", None
        return "closes" if new == ("tuple", old[1], later) else "opens", old[2]

    def handled(self, book, letter, state):
        """The pair of an answer and a state to which handle comes; None if it comes to none."""
        told = worth_in(book, self.name, "handle", (letter, state))
        return told[1] if told[0] == "value" and is_kind(told[1], "tuple") and len(told[1]) == 3 else None

    def changed(self, state):
        """The state to which change comes; None if it comes to none."""
        told = worth_in(self.new, self.name, "change", (state,))
        return told[1] if told[0] == "value" else None


def _unknown(behind, known):
    """The first rows to states that are not known yet, which then are."""
    level = []
    for row, state in behind:
        text = term_text(state)
        if text not in known:
            known[text] = state
            level.append((row, state))
    return level
