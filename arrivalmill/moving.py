"""A process of code between its rows: its registers, its stack, and the tries that are open.

The stack's top frame stands in slots, all parts beneath in below, as nested pairs; tries are nested pairs, too.
"""

from arrivalmill.errors import Astray


class Deck:
    """A module's code as it is gone through."""

    def __init__(self, code, store):
        self.name = code.name
        self.ops = code.ops
        self.places = code.places
        self.exports = code.exports
        self.constants = store.lay_for_good(code.constants)
        self.entries = {(name, many): code.places[label] for name, many, label in code.entries}
        self.funs = {}
        for op in code.ops:
            if op.word == "fun":
                self.funs[op.more[0]] = code.places[op.labels[0]]


class Run:
    """A process of code. hand tells whether it tries a letter; began whether its first full call is done."""

    def __init__(self, store, decks, doer):
        self.store = store
        self.decks = decks
        self.doer = doer
        self.deck = None
        self.at = 0
        self.xs = {}
        self.slots = None
        self.below = None
        self.depth = 0
        self.tries = None
        self.hand = False
        self.began = False

    def twin(self):
        """A run that stands alike, by itself."""
        other = Run(self.store, self.decks, self.doer)
        other.follow(self)
        return other

    def follow(self, other):
        """Stands as another run does."""
        self.deck = other.deck
        self.at = other.at
        self.xs = {number: other.xs[number] for number in other.xs}
        self.slots = None if other.slots is None else list(other.slots)
        self.below = other.below
        self.depth = other.depth
        self.tries = other.tries
        self.began = other.began

    def astray(self):
        """Raises the error of a row that would do what it cannot."""
        raise Astray((self.deck.name, self.at))

    def read(self, source):
        """The word of a source."""
        letter, number = source
        word = None
        if letter == "c":
            word = self.deck.constants[number]
        elif letter == "x":
            word = self.xs.get(number)
        elif self.slots is not None and number < len(self.slots):
            word = self.slots[number]
        if word is None:
            self.astray()
        return word

    def term(self, source):
        """The term of a source."""
        return self.store.term(self.read(source))

    def arguments(self, many):
        """The words of the first x."""
        return [self.read(("x", number)) for number in range(many)]

    def put(self, target, word):
        """Sets a register."""
        letter, number = target
        if letter == "x":
            self.xs[number] = word
        else:
            self.want_slot(number)
            self.slots[number] = word

    def want_slot(self, number):
        """Goes astray unless there is this slot."""
        if self.slots is None or number >= len(self.slots):
            self.astray()

    def set_arguments(self, words):
        """Leaves no x but these, from x0 on."""
        self.xs = {number: word for number, word in enumerate(words)}

    def jump(self, op):
        """Goes on at a row's first label."""
        self.at = self.deck.places[op.labels[0]]

    def push_back(self):
        """Puts the next place on the stack."""
        self.hide_frame()
        self.below = (("back", (self.deck.name, self.at + 1)), self.below)
        self.depth += 1

    def hide_frame(self):
        """Makes the top frame one of the parts beneath."""
        if self.slots is not None:
            self.below = (("frame", tuple(self.slots)), self.below)
            self.slots = None

    def push_frame(self, many):
        """Puts a frame on the stack."""
        self.hide_frame()
        self.slots = [None for _ in range(many)]
        self.depth += 1

    def pop_part(self):
        """Takes the top part off the stack: the place of a back, None for a frame."""
        self.depth -= 1
        place = None
        if self.slots is None:
            place = self.below[0][1]
            self.below = self.below[1]
        self.slots = None
        if self.below is not None and self.below[0][0] == "frame":
            self.slots = list(self.below[0][1])
            self.below = self.below[1]
        return place

    def go_to(self, place):
        """Goes on at a place."""
        module, self.at = place
        self.deck = self.decks[module]

    def enter(self, deck, row, words):
        """Goes on where a function begins, with these arguments."""
        self.deck = deck
        self.at = row
        self.set_arguments(words)

    def open_try(self, slot, row):
        """Opens a try, which takes its slot."""
        self.want_slot(slot)
        self.slots[slot] = None
        self.tries = ((self.depth, slot, (self.deck.name, row)), self.tries)

    def close_try(self, slot):
        """Closes the slot's last try of this frame, and those within."""
        self.want_slot(slot)
        tries = self.tries
        while tries is not None and tries[0][0] == self.depth:
            if tries[0][1] == slot:
                self.tries = tries[1]
                return
            tries = tries[1]

    def has_try_here(self):
        """Whether a try is open in the top frame."""
        return self.tries is not None and self.tries[0][0] >= self.depth

    def fall(self, word, reason):
        """Goes on at the innermost try with what is raised: None; or, without a try, why the process ends."""
        if self.tries is None:
            return ("lost", word, reason)
        (depth, _, place), self.tries = self.tries
        while self.depth > depth:
            self.pop_part()
        self.go_to(place)
        self.xs = {}
        self.set_arguments([word, self.store.lay(reason)])
        return None

    def stand(self):
        """How it stands: its place, x, stack and tries."""
        words = [(number, self.store.term(self.xs[number])) for number in sorted(self.xs)]
        stack = [] if self.slots is None else [self.frame_told(self.slots)]
        below = self.below
        while below is not None:
            part, below = below
            stack.append(part if part[0] == "back" else self.frame_told(part[1]))
        tries, row = [], self.tries
        while row is not None:
            tries.append(row[0])
            row = row[1]
        return ((self.deck.name, self.at), tuple(words), tuple(stack), tuple(tries))

    def frame_told(self, slots):
        """A frame, with the terms of its slots."""
        return ("frame", tuple([None if word is None else self.store.term(word) for word in slots]))

    def words_held(self):
        """All words that can still be read."""
        words = [self.xs[number] for number in self.xs]
        words.extend([] if self.slots is None else self.slots)
        below = self.below
        while below is not None:
            if below[0][0] == "frame":
                words.extend(below[0][1])
            below = below[1]
        return [word for word in words if word is not None]
