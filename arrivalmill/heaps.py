"""Heaps: terms as words and cells, laid one after the other, and cleared away when nobody can reach them."""

from arrivalmill.errors import BadCell, BadNumber, BadRoom, BadTerm, BadWord, Gone, NoRoom
from arrivalmill.order import sort_key
from arrivalmill.shapes import NIL, is_kind, with_parts
from arrivalmill.signs import is_atom, is_count, is_integer
from arrivalmill.terms import is_term
from arrivalmill.words import GREATEST_SMALL, LEAST_SMALL, own_words, parts_of_term, words_of_term

# Each is the sum of the two ahead.
ROOMS = (
    12, 20, 32, 52, 84, 136, 220, 356, 576, 932, 1508, 2440, 3948, 6388, 10336, 16724, 27060, 43784, 70844, 114628,
    185472, 300100, 485572, 785672,
)
MOST_WORDS = 785672


class Cell:
    """A cell: its form ("tuple", "pair", "map", "function", or "leaf" without parts), the words that are its parts,
    what else there is to its term, how many words it takes by itself, and its age."""

    def __init__(self, form, inner, shell, weight):
        self.form = form
        self.inner = inner
        self.shell = shell
        self.weight = weight
        self.stage = "young"


class Heap:
    """A heap of words."""

    def __init__(self, room):
        if not is_integer(room) or room not in ROOMS:
            raise BadRoom(room)
        self.room = room
        self.young = 0
        self.marked = 0
        self.elder = 0
        self.free = room
        self.lessers = 0
        self.greaters = 0
        self.cells = {}
        self.newer = []
        self.count = 0
        self.elder_kept = 0

    def make(self, kind, parts):
        """The word of a young cell more, of these parts."""
        inner = _words_in(kind, parts)
        if inner is None:
            raise BadCell((kind, parts))
        for word in inner:
            self.want_word(word)
        if kind == "map" and not self.keys_ascend(inner):
            raise BadCell((kind, parts))
        weight = _weight_of(kind, len(inner))
        if weight > self.free:
            raise NoRoom(weight)
        return self.new_cell(kind, inner, parts[:4] if kind == "function" else None, weight)

    def keys_ascend(self, inner):
        """Whether the keys among a map's words ascend by their terms."""
        keys = [sort_key(self.term(word)) for word in inner[::2]]
        for one, other in zip(keys, keys[1:]):
            if not one < other:
                return False
        return True

    def new_cell(self, kind, inner, shell, weight):
        """Makes a cell, for which there is room: its word."""
        self.count += 1
        self.cells[self.count] = Cell(kind, inner, shell, weight)
        self.newer.append(self.count)
        self.young += weight
        self.free -= weight
        return ("cell", self.count)

    def want_word(self, word):
        """Raises the error of what is no word of this heap, or was cleared away."""
        if _is_small(word):
            return
        if not isinstance(word, tuple) or len(word) != 2 or not isinstance(word[0], str) or word[0] != "cell":
            raise BadWord(word)
        if not is_count(word[1], 1) or word[1] > self.count:
            raise BadWord(word)
        if word[1] not in self.cells:
            raise Gone(word[1])

    def want_words(self, words):
        """Raises the error of what is no tuple of words, or of the first of them that is none."""
        if not isinstance(words, tuple):
            raise BadWord(words)
        for word in words:
            self.want_word(word)

    def put(self, term):
        """The word of a term, laid place by place."""
        if not is_term(term):
            raise BadTerm(term)
        words = words_of_term(term)
        if words > self.free:
            raise NoRoom(words)
        return self.laid(term)

    def laid(self, term):
        """Lays a term for which there is room."""
        if _is_small(term):
            return term
        if is_kind(term, "list") or is_kind(term, "odd"):
            return self.laid_list(term)
        inner = tuple([self.laid(part) for part in parts_of_term(term)])
        if not inner:
            return self.new_cell("leaf", (), term, own_words(term))
        kind = "function" if term[0] == "fun" else term[0]
        return self.new_cell(kind, inner, term[1:5] if kind == "function" else None, own_words(term))

    def laid_list(self, term):
        """Lays a list: of each cell first its rest, then its first term."""
        is_odd = term[0] == "odd"
        rest = self.laid(term[-1]) if is_odd else NIL
        for part in reversed(term[1:-1] if is_odd else term[1:]):
            first = self.laid(part)
            rest = self.new_cell("pair", (first, rest), None, 2)
        return rest

    def term(self, word):
        """The term of a word."""
        self.want_word(word)
        return self.term_known(word, {})

    def term_known(self, word, known):
        """The term of a word that is one; known are the terms of cells that were built ahead, by number."""
        if _is_small(word):
            return word
        number = word[1]
        if number not in known:
            cell = self.cells[number]
            if cell.form == "pair":
                known[number] = self.list_known(word, known)
            elif cell.form == "leaf":
                known[number] = cell.shell
            else:
                known[number] = _term_of(cell, [self.term_known(part, known) for part in cell.inner])
        return known[number]

    def list_known(self, word, known):
        """The term of a list's word."""
        firsts = []
        while not _is_small(word) and self.cells[word[1]].form == "pair":
            first, word = self.cells[word[1]].inner
            firsts.append(self.term_known(first, known))
        return with_parts(firsts, self.term_known(word, known))

    def age(self, word):
        """How old a word is."""
        self.want_word(word)
        return "small" if _is_small(word) else self.cells[word[1]].stage

    def parts(self, word):
        """The words that are the parts of a word."""
        self.want_word(word)
        return () if _is_small(word) else self.cells[word[1]].inner

    def shared(self, words):
        """How many words all cells take that are reached from words, each once."""
        self.want_words(words)
        return sum([self.cells[number].weight for number in self.reached(words, None)])

    def reached(self, words, stage):
        """The numbers of all cells that are reached from words, by none of this age, as keys of a dict."""
        found = {}
        waiting = list(words)
        while waiting:
            word = waiting.pop()
            if not _is_small(word) and word[1] not in found and self.cells[word[1]].stage != stage:
                found[word[1]] = True
                waiting.extend(self.cells[word[1]].inner)
        return found

    def flat(self, word):
        """How many words the term of a word takes if each place in it is laid by itself."""
        self.want_word(word)
        words = {}
        # Parts are made ahead of what they are parts of.
        for number in sorted(list(self.reached((word,), None))):
            cell = self.cells[number]
            words[number] = cell.weight + sum([words[part[1]] for part in cell.inner if not _is_small(part)])
        return 0 if _is_small(word) else words[word[1]]

    def ask(self, words, roots):
        """Sees that so many words are free; what is not reached from roots may be cleared away."""
        if not is_count(words, 0) or words > MOST_WORDS:
            raise BadNumber(words)
        self.want_words(roots)
        if self.free < words:
            self.clear_for(words, roots)

    def clear_for(self, words, roots):
        """Clears all away that is not reached, as far as it has to be for so many words."""
        self.clear_young(roots)
        if self.free < words or (self.elder > self.room and self.elder > 2 * self.elder_kept):
            self.clear_all(words, roots)

    def clear_young(self, roots):
        """A lesser clearing. No elder cell has parts that are not elder: so it is not gone through."""
        self.lessers += 1
        found = self.reached(roots, "elder")
        stays = []
        self.young = 0
        self.marked = 0
        for number in self.newer:
            cell = self.cells[number]
            if number not in found:
                self.cells.pop(number)
            elif cell.stage == "marked":
                cell.stage = "elder"
                self.elder += cell.weight
            else:
                cell.stage = "marked"
                self.marked += cell.weight
                stays.append(number)
        self.newer = stays
        self.free = self.room - self.marked

    def clear_all(self, words, roots):
        """A greater clearing, behind which there is room for so many words."""
        self.greaters += 1
        found = self.reached(roots, None)
        for number in list(self.cells):
            if number in found:
                cell = self.cells[number]
                cell.stage = "elder"
            else:
                self.cells.pop(number)
        self.newer = []
        self.young = 0
        self.marked = 0
        self.elder = sum([self.cells[number].weight for number in self.cells])
        self.elder_kept = self.elder
        self.room = min([room for room in ROOMS if room >= words and room >= self.room])
        self.free = self.room


def _is_small(value):
    """Whether any value is a word by itself."""
    if isinstance(value, tuple):
        return value == NIL
    return is_atom(value) or (is_integer(value) and LEAST_SMALL <= value <= GREATEST_SMALL)


def _words_in(kind, parts):
    """The words in what a cell is made of, in sequence; None if it has none of the forms."""
    if not isinstance(kind, str) or not isinstance(parts, tuple):
        return None
    if kind == "tuple":
        return parts if parts else None
    if kind == "pair":
        return parts if len(parts) == 2 else None
    if kind == "map":
        is_right = len(parts) > 0 and all([isinstance(pair, tuple) and len(pair) == 2 for pair in parts])
        return tuple([word for pair in parts for word in pair]) if is_right else None
    if kind != "function" or len(parts) != 5:
        return None
    module, name, size, edition, held = parts
    if not is_atom(module) or not is_count(name, 0) or not is_count(size, 0) or size > 9 or not is_count(edition, 1):
        return None
    return held if isinstance(held, tuple) and held else None


def _weight_of(kind, many):
    """How many words a cell with so many parts takes by itself."""
    if kind == "pair":
        return 2
    return many + (2 if kind == "function" else 1)


def _term_of(cell, terms):
    """The term of a cell, of the terms of its parts."""
    if cell.form == "tuple":
        return ("tuple", *terms)
    if cell.form == "map":
        return ("map", *[(terms[at], terms[at + 1]) for at in range(0, len(terms), 2)])
    return ("fun", *cell.shell, tuple(terms))
