"""Places in subjects, questions about them, and how terms answer these."""

from arrivalmill.shapes import has_key, has_rest, is_kind, rest_behind, worth_at
from arrivalmill.signs import is_atom, is_count, is_integer
from arrivalmill.terms import is_term

GREATEST_SIZE = 100


def is_key(value):
    """Whether any value is a key of its own: an integer or an atom."""
    return is_integer(value) or is_atom(value)


def is_plain_term(value):
    """Whether any value is an integer, an atom, bytes or the empty list."""
    if not isinstance(value, tuple):
        return is_key(value)
    return is_term(value) and (is_kind(value, "bytes") or value == ("list",))


class There:
    """Which places are there behind answers, for subjects and known names."""

    def __init__(self, width, known, answers):
        self.known = known
        self.places = {(number,): True for number in range(width)}
        for place, question, answer in answers:
            self.answer(place, question, answer)

    def answer(self, place, question, answer):
        """Notes an answer, by which further places may be there."""
        if not answer:
            return
        for step in _steps_to_parts(question):
            part = (*place, step)
            self.places[part] = True

    def has_place(self, value):
        """Whether any value is a place that is there."""
        if not isinstance(value, tuple) or not value or not all([_is_step(step) for step in value]):
            return False
        return value in self.places

    def can_stand(self, place, question):
        """Whether any values are a place that is there, and a question about it."""
        if not self.has_place(place) or not isinstance(question, tuple) or not question:
            return False
        word = question[0]
        if not isinstance(word, str):
            return False
        if word == "cons" or word == "map":
            return len(question) == 1
        if len(question) != 2:
            return False
        if word == "is":
            return is_plain_term(question[1])
        if word == "tuple":
            return is_count(question[1], 0) and question[1] <= GREATEST_SIZE
        if word == "has":
            return is_key(question[1])
        if word == "same":
            return self.has_place(question[1])
        return word in ("keyed", "held") and isinstance(question[1], str) and question[1] in self.known


def _steps_to_parts(question):
    """The last steps of the places that are there behind an answer True."""
    if question[0] == "tuple":
        return list(range(question[1]))
    if question[0] == "cons":
        return ["first", "rest"]
    if question[0] == "has":
        return [("key", question[1])]
    return [question] if question[0] == "keyed" else []


def _is_step(value):
    """Whether any value has the form of a part of a place."""
    if isinstance(value, tuple):
        return len(value) == 2 and isinstance(value[0], str) and is_key(value[1])
    return is_count(value, 0) or (isinstance(value, str) and value in ("first", "rest"))


def term_at(place, subjects, held):
    """The term at a place that is there; held is a dict."""
    term = subjects[place[0]]
    for step in place[1:]:
        if step == "first":
            term = term[1]
        elif step == "rest":
            term = rest_behind(term, 2)
        elif isinstance(step, tuple):
            term = worth_at(term, step[1] if step[0] == "key" else held[step[1]])
        else:
            term = term[step + 1]
    return term


def answer_to(place, question, subjects, held):
    """What subjects answer to a question about a place that is there; held is a dict."""
    term = term_at(place, subjects, held)
    word = question[0]
    if word == "is":
        return term == question[1]
    if word == "tuple":
        return is_kind(term, "tuple") and len(term) == question[1] + 1
    if word == "cons":
        return has_rest(term, 1)
    if word == "same":
        return term == term_at(question[1], subjects, held)
    if word == "held":
        return term == held[question[1]]
    if not is_kind(term, "map") or word == "map":
        return is_kind(term, "map")
    return has_key(term, question[1] if word == "has" else held[question[1]])


def answer_so(answers, subjects, held):
    """Whether subjects answer so; held is a dict."""
    for place, question, answer in answers:
        if answer_to(place, question, subjects, held) != answer:
            return False
    return True
