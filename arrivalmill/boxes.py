"""Boxes of letters, and how receives go through them."""

from arrivalmill.errors import BadBox, BadComings, BadTerm, BadTime, NoLetter
from arrivalmill.holding import names_behind
from arrivalmill.naming import dict_of_names, row_of_names
from arrivalmill.plain import FIRST
from arrivalmill.reckoning import guard_lets
from arrivalmill.sameness import is_among
from arrivalmill.shapes import is_kind
from arrivalmill.signs import is_count
from arrivalmill.terms import is_term


class Box:
    """The letters that have come to a process and are not taken, eldest first."""

    def __init__(self, letters):
        if not isinstance(letters, tuple) or not all([is_term(letter) for letter in letters]):
            raise BadBox(letters)
        self.letters = letters

    def __eq__(self, other):
        return isinstance(other, Box) and self.letters == other.letters

    def __len__(self):
        return len(self.letters)

    def __contains__(self, value):
        return is_among(value, self.letters)

    def with_letter(self, term):
        """The box with a letter behind the others."""
        if not is_term(term):
            raise BadTerm(term)
        return Box((*self.letters, term))

    def without(self, number):
        """The box without the letter of this number."""
        if not is_count(number, 0) or number >= len(self.letters):
            raise NoLetter(number)
        return Box(self.letters[:number] + self.letters[number + 1:])

    def flushed(self, reference):
        """The box that a flush of a reference leaves."""
        if not is_term(reference):
            raise BadTerm(reference)
        return Box(flushed_letters(self.letters, reference))


def flushed_letters(letters, reference):
    """Letters without the eldest one that tells of the end of what this reference watched."""
    for at, letter in enumerate(letters):
        if is_kind(letter, "tuple") and len(letter) == 6 and letter[1] == "DOWN" and letter[2] == reference:
            return letters[:at] + letters[at + 1:]
    return letters


def taken(box, clauses, names):
    """The eldest letter that clauses of a receive take: (number, clause, the names behind its pattern), or None."""
    ahead = dict_of_names(names)
    for number, letter in enumerate(box.letters):
        found = _taking(letter, clauses, ahead)
        if found is not None:
            return (number, *found)
    return None


def _taking(letter, clauses, ahead):
    """The first clause that takes a letter: (its number, the names behind its pattern), or None."""
    for at, (patterns, guard, _) in enumerate(clauses):
        found = names_behind(patterns, (letter,), ahead, ahead)
        if found is not None and guard_lets(guard, found, FIRST):
            return (at, row_of_names(found))
    return None


def visit(box, comings, clauses, names, time):
    """What a receive comes to that finds this box, and gets what comes from then on."""
    if not isinstance(comings, tuple) or not all([_is_coming(coming) for coming in comings]):
        raise BadComings(comings)
    ahead = dict_of_names(names)
    if time is not None and not is_count(time, 0):
        raise BadTime(time)
    letters = [*box.letters, *[coming[1] for coming in comings if coming[0] == "letter"]]
    looked = 0
    for coming in [*[("letter", letter) for letter in box.letters], *_counting(comings, time)]:
        if coming[0] == "over":
            return ("over", Box(tuple(letters)), looked)
        found = _taking(coming[1], clauses, ahead)
        looked += 1
        if found is not None:
            rest = letters[:looked - 1] + letters[looked:]
            return ("took", looked - 1, *found, Box(tuple(rest)), looked)
    return ("waits", Box(tuple(letters)), looked)


def _counting(comings, time):
    """What counts of all that comes to a receive of this time."""
    if time is None:
        return [coming for coming in comings if coming[0] == "letter"]
    return [("over",)] if time == 0 else list(comings)


def _is_coming(value):
    if not isinstance(value, tuple) or not value or not isinstance(value[0], str):
        return False
    if value[0] == "letter":
        return len(value) == 2 and is_term(value[1])
    return value[0] == "over" and len(value) == 1
