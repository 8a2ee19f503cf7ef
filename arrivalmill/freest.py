"""The freest terms that answer so: nothing is equal in them, or a part of them, but what has to be.

Whatever is asked of them and is so in them is so in all terms that give the same answers True. So answers False, of
which each can stand by itself beside these, all stand together: the freest terms give them all.
"""

from arrivalmill.shapes import with_pair, with_parts
from arrivalmill.spots import answer_so


class Unifier:
    """Nodes that stand for terms, some of them for the same one.

    A node's shape is None, ("const", term), ("tuple", parts), ("cons", parts) or ("map", rows), rows of two nodes.
    """

    def __init__(self):
        self.above = []
        self.shapes = []
        self.consts = {}
        self.waiting = []

    def node(self, shape):
        """A new node."""
        self.above.append(None)
        self.shapes.append(shape)
        return len(self.above) - 1

    def const(self, term):
        """The node of a term that is an integer, an atom, bytes or the empty list."""
        if term not in self.consts:
            self.consts[term] = self.node(("const", term))
        return self.consts[term]

    def top(self, node):
        """The node that stands for all those that are the same as this one."""
        while self.above[node] is not None:
            node = self.above[node]
        return node

    def unite(self, one, other):
        """Makes two nodes the same, and all that has to be the same with them."""
        self.waiting.append((one, other))
        while self.waiting:
            left, right = self.waiting.pop()
            left, right = self.top(left), self.top(right)
            if left != right:
                self.above[right] = left
                self.shapes[left] = self.united(self.shapes[left], self.shapes[right])

    def united(self, one, other):
        """The shape of nodes that were made the same; where there is none, what they stand for answers otherwise."""
        if one is None:
            return other
        if other is None or one[0] != other[0] or one[0] == "const":
            return one
        if one[0] == "map":
            return (*one, *other[1:])
        self.waiting.extend(list(zip(one[1:], other[1:])))
        return one

    def close(self):
        """Unites what has to be the same: values at equal keys, and what has all parts in common."""
        pairs = self.pairs_to_unite()
        while pairs:
            for one, other in pairs:
                self.unite(one, other)
            pairs = self.pairs_to_unite()

    def pairs_to_unite(self):
        """Nodes that are not yet the same, but have to be."""
        pairs, alike = [], {}
        for node, shape in enumerate(self.shapes):
            if self.above[node] is None and shape is not None:
                if shape[0] == "map":
                    pairs.extend(self.values_to_unite(shape))
                elif shape[0] != "const":
                    key = (shape[0], *[self.top(part) for part in shape[1:]])
                    pairs.append((alike.setdefault(key, node), node))
        return [(one, other) for one, other in pairs if self.top(one) != self.top(other)]

    def values_to_unite(self, shape):
        """The values at equal keys of a map."""
        values = {}
        return [(values.setdefault(self.top(key), value), value) for key, value in shape[1:]]

    def parts_of(self, node):
        """The nodes of all parts, keys and values of a node."""
        shape = self.shapes[self.top(node)]
        if shape is None or shape[0] == "const":
            return []
        if shape[0] == "map":
            return [self.top(part) for row in shape[1:] for part in row]
        return [self.top(part) for part in shape[1:]]

    def is_finite(self):
        """Whether no node is a part of itself."""
        tops = [node for node in range(len(self.above)) if self.above[node] is None]
        wholes = {node: [] for node in tops}
        open_parts = {}
        for node in tops:
            parts = self.parts_of(node)
            open_parts[node] = len(parts)
            for part in parts:
                wholes[part].append(node)
        done = [node for node in tops if open_parts[node] == 0]
        at = 0
        while at < len(done):
            node = done[at]
            for whole in wholes[node]:
                open_parts[whole] -= 1
                if open_parts[whole] == 0:
                    done.append(whole)
            at += 1
        return len(done) == len(tops)


class Puzzle:
    """What answers True say of subjects and of the worths of known names."""

    def __init__(self, width, known):
        self.unifier = Unifier()
        self.places = {(number,): self.unifier.node(None) for number in range(width)}
        self.names = {name: self.unifier.node(None) for name in known}

    def note(self, place, question):
        """Takes in an answer True."""
        word = question[0]
        node = self.places[place]
        if word == "is":
            self.unifier.unite(node, self.unifier.const(question[1]))
        elif word == "same":
            self.unifier.unite(node, self.places[question[1]])
        elif word == "held":
            self.unifier.unite(node, self.names[question[1]])
        else:
            self.unifier.unite(node, self.unifier.node(self.shape_of(place, question)))

    def shape_of(self, place, question):
        """The shape that an answer True gives, with the places of its parts."""
        word = question[0]
        if word == "tuple":
            steps = list(range(question[1]))
        elif word == "cons":
            steps = ["first", "rest"]
        elif word == "map":
            return ("map",)
        else:
            return ("map", self.row_of(place, question))
        nodes = [self.unifier.node(None) for _ in steps]
        for step, node in zip(steps, nodes):
            part = (*place, step)
            self.places[part] = node
        return (word, *nodes)

    def row_of(self, place, question):
        """The key and the value of a map that has this key."""
        value = self.unifier.node(None)
        is_told = question[0] == "has"
        part = (*place, ("key" if is_told else "keyed", question[1]))
        self.places[part] = value
        return (self.unifier.const(question[1]) if is_told else self.names[question[1]], value)


class Builder:
    """Builds the freest terms of nodes; atoms that are mentioned are none of theirs."""

    def __init__(self, unifier, mentioned):
        self.unifier = unifier
        self.mentioned = mentioned
        self.count = 0
        self.built_terms = {}

    def fresh(self):
        """An atom that stands nowhere else."""
        self.count += 1
        while "a" + str(self.count) in self.mentioned:
            self.count += 1
        return "a" + str(self.count)

    def term(self, node):
        """The term of a node."""
        top = self.unifier.top(node)
        if top not in self.built_terms:
            self.built_terms[top] = self.term_of_shape(self.unifier.shapes[top])
        return self.built_terms[top]

    def term_of_shape(self, shape):
        """The term of a shape."""
        if shape is None:
            return self.fresh()
        if shape[0] == "const":
            return shape[1]
        if shape[0] == "tuple":
            return ("tuple", *[self.term(part) for part in shape[1:]])
        if shape[0] == "cons":
            return with_parts((self.term(shape[1]),), self.term(shape[2]))
        # Maps that need not be the same are not: each has one more key, of its own.
        chart = ("map", (self.fresh(), self.fresh()))
        for key, value in shape[1:]:
            chart = with_pair(chart, self.term(key), self.term(value))
        return chart


def freest(width, known, answers, mentioned):
    """The freest (subjects, worths of known names as a dict) that answer so; None if none do."""
    puzzle = Puzzle(width, known)
    for place, question, answer in answers:
        if answer:
            puzzle.note(place, question)
    unifier = puzzle.unifier
    unifier.close()
    if not unifier.is_finite():
        return None
    builder = Builder(unifier, mentioned)
    held = {name: builder.term(puzzle.names[name]) for name in known}
    subjects = tuple([builder.term(puzzle.places[(number,)]) for number in range(width)])
    return (subjects, held) if answer_so(answers, subjects, held) else None


def strings_in(value):
    """All strings that stand in any value made of tuples, as keys of a dict."""
    found = {}
    row = [value]
    while row:
        one = row.pop()
        if isinstance(one, str):
            found[one] = True
        elif isinstance(one, tuple):
            row.extend(list(one))
    return found
