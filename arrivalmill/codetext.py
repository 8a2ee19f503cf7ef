"""Texts of code: read line by line, up to the first one that cannot stand."""

from arrivalmill.errors import BadCode, BadTermText
from arrivalmill.rowforms import read_atom, read_number, read_row
from arrivalmill.termtext import read_term

FIGURES = 3


class CodeReader:
    """Goes through the lines of a text of code, and keeps what they tell."""

    def __init__(self, text):
        if not isinstance(text, str):
            raise BadCode(0)
        self.lines = text.split("\n")
        self.at = 0
        self.labels = _labels_in(self.lines)
        self.name = None
        self.constants = []
        self.entries = []
        self.exports = []
        self.rows = []
        self.ops = []
        self.places = {}

    def fail(self):
        """Raises the error of the line that comes next."""
        raise BadCode(self.at + 1)

    def words_here(self):
        """The words of the line that comes next; none behind the last line."""
        return self.lines[self.at].split(" ") if self.at < len(self.lines) else [""]

    def read(self):
        """Reads all lines."""
        self.read_name()
        while self.words_here()[0] == "const":
            self.read_constant()
        self.read_entry()
        while self.words_here()[0] == "entry":
            self.read_entry()
        while self.words_here()[0] == "export":
            self.read_export()
        self.read_row()
        while self.at < len(self.lines):
            self.read_row()

    def read_name(self):
        """The first line."""
        words = self.words_here()
        if len(words) != 2 or words[0] != "code":
            self.fail()
        self.name = self.atom(words[1])
        self.at += 1

    def atom(self, word):
        """The atom that a word is."""
        atom = read_atom(word)
        if atom is None:
            self.fail()
        return atom

    def number(self, word, figures):
        """The number that a word is."""
        number = read_number(word, figures)
        if number is None:
            self.fail()
        return number

    def read_constant(self):
        """A line of a constant, whose number is that of the constants ahead."""
        words = self.words_here()
        if len(words) < 3 or self.number(words[1], FIGURES) != len(self.constants):
            self.fail()
        term = _term_of(" ".join(words[2:]))
        if term is None:
            self.fail()
        self.constants.append(term)
        self.at += 1

    def entry_of(self, size, first):
        """The function that a line of so many words tells, this being the first one."""
        words = self.words_here()
        if len(words) != size or words[0] != first:
            self.fail()
        return (self.atom(words[1]), self.number(words[2], FIGURES))

    def read_entry(self):
        """A line of an entry."""
        entry = self.entry_of(4, "entry")
        label = self.number(self.words_here()[3], 6)
        if label not in self.labels or self.has_entry(entry):
            self.fail()
        self.entries.append((*entry, label))
        self.at += 1

    def has_entry(self, entry):
        """Whether there is an entry of this function."""
        return len([row for row in self.entries if row[:2] == entry]) > 0

    def read_export(self):
        """A line of an export."""
        entry = self.entry_of(3, "export")
        if not self.has_entry(entry) or entry in self.exports:
            self.fail()
        self.exports.append(entry)
        self.at += 1

    def read_row(self):
        """A line of a row."""
        told = read_row(self.words_here())
        if told is None or not self.can_stand(told[1]):
            self.fail()
        row, op = told
        if op.word == "label":
            self.places[op.more[0]] = len(self.rows)
        self.rows.append(row)
        self.ops.append(op)
        self.at += 1

    def can_stand(self, op):
        """Whether all that a row names is there, and nothing that it tells was told ahead."""
        for label in op.labels:
            if label not in self.labels:
                return False
        numbers = [number for letter, number in op.reads if letter == "c"]
        if op.word == "pick":
            numbers.extend(op.more)
        if [number for number in numbers if number >= len(self.constants)]:
            return False
        if op.word == "own":
            return self.has_entry(op.more)
        return op.word != "label" or op.more[0] not in self.places


def _labels_in(lines):
    """The labels that a line of theirs tells, wherever it stands."""
    found = {}
    for line in lines:
        words = line.split(" ")
        if len(words) == 2 and words[0] == "label":
            found[read_number(words[1], 6)] = True
    return found


def _term_of(text):
    """The term whose text this is; None if it is none."""
    try:
        return read_term(text)
    except BadTermText:
        return None
