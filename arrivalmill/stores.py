"""Where a machine keeps its terms: here each word of it is the term itself."""

from arrivalmill.shapes import has_key, has_rest, is_kind, rest_behind, with_parts, worth_at

KINDS = {
    "bytes": "bytes", "list": "cell", "odd": "cell", "tuple": "tuple", "map": "map", "pid": "pid", "ref": "reference",
    "fun": "fun",
}
NIL = ("list",)


def kind_of_term(term):
    """The word by which code asks for terms of this kind."""
    if isinstance(term, str):
        return "atom"
    if not isinstance(term, tuple):
        return "integer"
    return "nil" if term == NIL else KINDS[term[0]]


class PlainStore:
    """Words that are terms. All stores have these methods."""

    def lay(self, term):
        """The word of a term."""
        return term

    def follow(self, run):
        """From now on the words of this run are read, too."""

    def leave(self, run):
        """The words of this run are read no more."""

    def lay_all(self, terms):
        """The words of several terms."""
        return list(terms)

    def lay_for_good(self, terms):
        """The words of terms that are never cleared away."""
        return list(terms)

    def make_room(self, words):
        """Makes room for so many words."""

    def term(self, word):
        """The term of a word."""
        return word

    def is_same(self, one, other):
        """Whether two words have the same term."""
        return one == other

    def kind(self, word):
        """The word of its kind."""
        return kind_of_term(word)

    def size(self, word):
        """How many parts a tuple has, how many arguments a function takes."""
        return len(word) - 1 if word[0] == "tuple" else word[3]

    def part(self, word, number):
        """A part of a tuple, from 0 on; None if it has none, or is no tuple."""
        if not is_kind(word, "tuple") or number + 1 >= len(word):
            return None
        return word[number + 1]

    def head(self, word):
        """The first part of a cell; None if it is none."""
        return word[1] if has_rest(word, 1) else None

    def tail(self, word):
        """The rest of a cell; None if it is none."""
        return rest_behind(word, 2) if has_rest(word, 1) else None

    def parts(self, word):
        """The parts of a list; None if it is none."""
        return list(word[1:]) if is_kind(word, "list") else None

    def key(self, word, key):
        """What a map has at a key, itself a word; None if it has none, or is no map."""
        if not is_kind(word, "map") or not has_key(word, key):
            return None
        return worth_at(word, key)

    def cell(self, first, rest):
        """A cell of two words."""
        return with_parts((first,), rest)

    def tuple_of(self, words):
        """A tuple of words."""
        return ("tuple", *words)

    def function(self, module, number, size, words):
        """A function that holds words."""
        return ("fun", module, number, size, 1, tuple(words))

    def held_words(self, word):
        """What a function holds."""
        return word[5]
