"""The questions that patterns ask, and trees grown of them."""

from arrivalmill.freest import freest, strings_in
from arrivalmill.spots import answer_to, term_at


class Plain:
    """Goes with patterns, and notes all that they ask."""

    def __init__(self, known):
        self.known = known
        self.names = {}
        self.asked = []

    def holds(self, place, question):
        """Whether a question is answered so that the pattern may fit."""
        self.asked.append((place, question))
        return True

    def part(self, place, _question, step):
        """The place of a part."""
        return (*place, step)


class View:
    """Goes with patterns as far as all that they ask is so in the freest subjects that answer so."""

    def __init__(self, known, answers, found):
        self.known = known
        self.names = {}
        self.asked = []
        self.answers = answers
        self.subjects = found[0]
        self.held = found[1]

    def holds(self, place, question):
        """Whether a question is answered so that the pattern may fit; the first one that is not is noted."""
        is_so = answer_to(place, question, self.subjects, self.held)
        if not is_so:
            self.asked.append((place, question))
        return is_so

    def part(self, place, question, step):
        """A place that is there, of a part: perhaps another place than the pattern's has the term that was asked."""
        term = term_at(place, self.subjects, self.held)
        for other, asked, answer in self.answers:
            if answer and self.tells(asked, question) and term_at(other, self.subjects, self.held) == term:
                if asked[0] == "has":
                    return (*other, ("key", asked[1]))
                return (*other, asked if asked[0] == "keyed" else step)
        return None

    def tells(self, asked, question):
        """Whether a question tells as much as another one."""
        if question[0] not in ("has", "keyed"):
            return asked == question
        return asked[0] in ("has", "keyed") and self.key(asked) == self.key(question)

    def key(self, question):
        """The key of which a question asks."""
        return question[1] if question[0] == "has" else self.held[question[1]]


def _goes_with(guide, pattern, place):
    """Goes with a pattern, as long as what it asks is answered so."""
    if pattern[0] in GOES:
        go = GOES[pattern[0]]
        return go(guide, pattern, place)
    return pattern[0] == "any" or guide.holds(place, ("is", _term_of(pattern)))


def _term_of(pattern):
    if pattern[0] == "nil":
        return ("list",)
    return ("bytes", *pattern[1]) if pattern[0] == "bytes" else pattern[1]


def _name(guide, pattern, place):
    name = pattern[1]
    if name in guide.known:
        return guide.holds(place, ("held", name))
    if name in guide.names:
        return guide.holds(place, ("same", guide.names[name]))
    guide.names[name] = place
    return True


def _tuple(guide, pattern, place):
    question = ("tuple", len(pattern[1]))
    if not guide.holds(place, question):
        return False
    for number, part in enumerate(pattern[1]):
        if not _goes_with(guide, part, guide.part(place, question, number)):
            return False
    return True


def _cons(guide, pattern, place):
    question = ("cons",)
    while pattern[0] == "cons":
        if not guide.holds(place, question):
            return False
        if not _goes_with(guide, pattern[1], guide.part(place, question, "first")):
            return False
        place = guide.part(place, question, "rest")
        pattern = pattern[2]
    return _goes_with(guide, pattern, place)


def _map(guide, pattern, place):
    if not pattern[1]:
        return guide.holds(place, ("map",))
    for key, value in pattern[1]:
        is_name = key[0] == "name"
        question = ("keyed" if is_name else "has", key[1])
        if not guide.holds(place, question):
            return False
        step = question if is_name else ("key", key[1])
        if not _goes_with(guide, value, guide.part(place, question, step)):
            return False
    return True


def _alias(guide, pattern, place):
    return _goes_with(guide, pattern[1], place) and _goes_with(guide, pattern[2], place)


GOES = {"name": _name, "tuple": _tuple, "cons": _cons, "map": _map, "alias": _alias}


def _gone_with(guide, patterns):
    """A guide that went with the patterns of a clause."""
    for number, pattern in enumerate(patterns):
        if not _goes_with(guide, pattern, (number,)):
            return guide
    return guide


def clause_questions(heads, number):
    """All that a clause asks, each behind what it hangs on: answered True, these are what fits it."""
    return _gone_with(Plain(heads.known), heads.rows[number]).asked


def names_at(heads, number):
    """The places at which the names of a clause stand first, as a dict."""
    return _gone_with(Plain(heads.known), heads.rows[number]).names


class Grower:
    """Grows trees of heads."""

    def __init__(self, heads):
        self.heads = heads
        self.mentioned = strings_in(heads.rows)
        numbers = range(len(heads.cases))
        self.wanted = [[(*question, True) for question in clause_questions(heads, number)] for number in numbers]

    def freest(self, answers):
        """The freest subjects that answer so; None if none do."""
        return freest(self.heads.width, self.heads.known, answers, self.mentioned)

    def grow(self, answers, passed):
        """A tree behind these answers, some clauses being left by their rests."""
        found = self.freest(answers)
        for number in range(len(self.heads.cases)):
            if number not in passed and self.freest((*answers, *self.wanted[number])) is not None:
                view = _gone_with(View(self.heads.known, answers, found), self.heads.rows[number])
                if not view.asked:
                    return self.grow_fits(number, view.names, answers, passed)
                place, question = view.asked[0]
                yes = self.grow((*answers, (place, question, True)), passed)
                no = self.grow((*answers, (place, question, False)), passed)
                return ("ask", place, question, yes, no)
        return ("none",)

    def grow_fits(self, number, places, answers, passed):
        """The tree at which a clause fits."""
        names = tuple([(name, places[name]) for name in self.heads.binds[number]])
        rest = self.grow(answers, (*passed, number)) if self.heads.guards[number] else None
        return ("fits", number, names, rest)
