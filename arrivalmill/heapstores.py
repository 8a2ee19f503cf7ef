"""A machine's terms on a heap, which is asked ahead of all that is made."""

from arrivalmill.shapes import NIL
from arrivalmill.stores import kind_of_term
from arrivalmill.words import words_of_term

KINDS = {"tuple": "tuple", "pair": "cell", "map": "map", "function": "fun"}


class HeapStore:
    """Words of a heap; its roots are all that the runs that are followed can still read, and what lasts."""

    def __init__(self, heap, always):
        self.heap = heap
        self.always = always
        self.runs = []
        self.lasting = []

    def ask(self, words):
        """Asks the heap for so many words."""
        if self.always:
            self.heap.clear_for(words, self.roots())
        elif self.heap.free < words:
            self.heap.ask(words, self.roots())

    def roots(self):
        """All words that can still be read."""
        roots = list(self.lasting)
        for run in self.runs:
            roots.extend(run.words_held())
        return tuple(roots)

    def follow(self, run):
        """From now on the words of this run are read, too."""
        self.runs.append(run)

    def leave(self, run):
        """The words of this run, the last one that was followed, are read no more."""
        self.runs.pop()

    def lay(self, term):
        """The word of a term."""
        return self.lay_all((term,))[0]

    def lay_all(self, terms):
        """The words of several terms."""
        self.ask(sum([words_of_term(term) for term in terms]))
        return [self.heap.put(term) for term in terms]

    def lay_for_good(self, terms):
        """The words of terms that are never cleared away."""
        words = self.lay_all(terms)
        self.lasting.extend(words)
        return words

    def make_room(self, words):
        """Makes room for so many words."""
        self.ask(words)

    def term(self, word):
        """The term of a word."""
        return self.heap.term(word)

    def is_same(self, one, other):
        """Whether two words have the same term."""
        if one == other or self.cell_of(one) is None or self.cell_of(other) is None:
            return one == other
        return self.term(one) == self.term(other)

    def cell_of(self, word):
        """The cell of a word; None for a small."""
        return self.heap.cells[word[1]] if isinstance(word, tuple) and word != NIL else None

    def kind(self, word):
        """The word of its kind."""
        cell = self.cell_of(word)
        if cell is None:
            return kind_of_term(word)
        return kind_of_term(cell.shell) if cell.form == "leaf" else KINDS[cell.form]

    def size(self, word):
        """How many parts a tuple has, how many arguments a function takes."""
        cell = self.cell_of(word)
        if cell.form == "function":
            return cell.shell[2]
        if cell.form == "leaf" and cell.shell[0] == "fun":
            return cell.shell[3]
        return len(cell.inner)

    def part(self, word, number):
        """A part of a tuple, from 0 on; None if it has none, or is no tuple."""
        cell = self.cell_of(word)
        if cell is None or cell.form != "tuple" or number >= len(cell.inner):
            return None
        return cell.inner[number]

    def head(self, word):
        """The first part of a cell; None if it is none."""
        cell = self.cell_of(word)
        return None if cell is None or cell.form != "pair" else cell.inner[0]

    def tail(self, word):
        """The rest of a cell; None if it is none."""
        cell = self.cell_of(word)
        return None if cell is None or cell.form != "pair" else cell.inner[1]

    def parts(self, word):
        """The parts of a list; None if it is none."""
        words = []
        while self.kind(word) == "cell":
            words.append(self.head(word))
            word = self.tail(word)
        return words if word == NIL else None

    def key(self, word, key):
        """What a map has at a key, a term; None if it has none, or is no map."""
        cell = self.cell_of(word)
        if cell is None or cell.form != "map":
            return None
        for at in range(0, len(cell.inner), 2):
            if self.term(cell.inner[at]) == key:
                return cell.inner[at + 1]
        return None

    def cell(self, first, rest):
        """A cell of two words."""
        return self.made_here("pair", (first, rest), 2)

    def tuple_of(self, words):
        """A tuple of words."""
        return self.made_here("tuple", tuple(words), len(words) + 1) if words else self.lay(("tuple",))

    def made_here(self, kind, parts, words):
        """A cell out of the room that was asked for; where code made none it is asked for now."""
        if self.heap.free < words:
            self.ask(words)
        return self.heap.make(kind, parts)

    def function(self, module, number, size, words):
        """A function that holds words."""
        if not words:
            return self.lay(("fun", module, number, size, 1, ()))
        self.ask(len(words) + 2)
        return self.heap.make("function", (module, number, size, 1, tuple(words)))

    def held_words(self, word):
        """What a function holds."""
        return self.cell_of(word).inner
