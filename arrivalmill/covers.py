"""What has been read of a text, as long as it is open what it will be: an expression, a pattern, a map's key."""

from arrivalmill.errors import BadForm, BadText
from arrivalmill.lexing import OVER, words_of

# What something may be, as bits of a number.
EXPRESSION = 1
PATTERN = 2
KEY = 4
EITHER = 3

# The words of BadForm, as they come at one place.
RANKS = ("twice", "clauses", "hides", "many", "fun", "guard", "export")


class Cover:
    """What was read: what it can be, with its forms as an expression and as a pattern or key: they count if it can."""

    def __init__(self, can, expression, pattern):
        self.can = can
        self.expression = expression
        self.pattern = pattern


def is_one(cover, what):
    """Whether it can be one of these."""
    return cover.can & what != 0


class WordReader:
    """Goes through the words of a text, and notes the rules that it breaks."""

    def __init__(self, text):
        if not isinstance(text, str):
            raise BadText((0, 0))
        self.words = words_of(text)
        self.at = 0
        self.wrongs = []

    def kind(self):
        """The kind of the word that comes next."""
        return self.words[self.at][0]

    def place_here(self):
        """Where the word stands that comes next."""
        return self.words[self.at][2:]

    def take(self):
        """Passes by the next word, and tells its worth."""
        worth = self.words[self.at][1]
        self.at += 1
        return worth

    def want(self, kind):
        """Passes by a word that must be of this kind, and tells its worth."""
        if self.kind() != kind:
            raise BadText(self.place_here())
        return self.take()

    def passes(self, kind):
        """Passes by the next word, if it is of this kind, and tells whether it was."""
        if self.kind() != kind:
            return False
        self.at += 1
        return True

    def note(self, word, place):
        """Notes that a rule is broken here."""
        self.wrongs.append((place, RANKS.index(word)))

    def end_well(self):
        """Wants the text to be over, and its rules not to be broken."""
        if self.kind() != OVER:
            raise BadText(self.place_here())
        if self.wrongs:
            place, rank = min(self.wrongs)
            raise BadForm((RANKS[rank], place[0], place[1]))
