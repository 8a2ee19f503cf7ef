"""Modules, and whole expressions, read from their texts."""

from arrivalmill.clausing import MOST_PATTERNS
from arrivalmill.errors import NoFunction
from arrivalmill.expressing import ExpressionReader
from arrivalmill.lexing import ATOM, OVER, STOP
from arrivalmill.signs import is_integer
from arrivalmill.tables import is_built


class Module:
    """A module: its text, and the forms that this is read to."""

    def __init__(self, text):
        reader = ModuleReader(text)
        self.forms = reader.read_module()
        self.text = text
        self.name = self.forms[1]
        self.exports = self.forms[2]
        self.functions = tuple((name, many) for name, many, _ in self.forms[3])

    def __eq__(self, other):
        return isinstance(other, Module) and self.forms == other.forms

    def __len__(self):
        return len(self.functions)

    def __contains__(self, entry):
        return _is_entry(entry) and entry in self.functions

    def clauses(self, name, many):
        """The clauses of the function of this name and number of patterns."""
        if _is_entry((name, many)):
            for other, number, clauses in self.forms[3]:
                if (other, number) == (name, many):
                    return clauses
        raise NoFunction((name, many))


def _is_entry(value):
    return isinstance(value, tuple) and len(value) == 2 and isinstance(value[0], str) and is_integer(value[1])


def read_expression(text):
    """The form of one whole expression."""
    reader = ExpressionReader(text)
    form = reader.read_whole()
    reader.end_well()
    return form


class ModuleReader(ExpressionReader):
    """A reader of modules."""

    def read_module(self):
        """The forms of a module."""
        name = self.read_name()
        exports = []
        places = {}
        while self.kind() == "-":
            for entry, place in self.read_exports():
                if entry in places:
                    self.note("twice", place)
                else:
                    exports.append(entry)
                    places[entry] = place
        functions = []
        ended = {}
        while self.kind() != OVER:
            function = self.read_function(ended)
            ended[function[:2]] = True
            functions.append(function)
        for entry in exports:
            if entry not in ended:
                self.note("export", places[entry])
        self.end_well()
        return ("module", name, tuple(sorted(exports)), tuple(functions))

    def read_name(self):
        """The name of the module, in its first line."""
        self.want_word("module")
        self.want("(")
        name = self.want(ATOM)
        self.want(")")
        self.want(STOP)
        return name

    def want_word(self, word):
        """Passes by a minus and this word."""
        self.want("-")
        if self.words[self.at][:2] != (ATOM, word):
            self.fail()
        self.take()

    def read_exports(self):
        """The rows of an export: each (function, number), with its place."""
        self.want_word("export")
        self.want("(")
        self.want("[")
        rows = []
        if not self.passes("]"):
            rows.append(self.read_export())
            while self.passes(","):
                rows.append(self.read_export())
            self.want("]")
        self.want(")")
        self.want(STOP)
        return rows

    def read_export(self):
        """One row of an export."""
        place = self.place_here()
        name = self.want(ATOM)
        return (name, self.read_size()), place

    def read_function(self, ended):
        """A function, up to its full stop; those in ended were ended ahead of it."""
        place, name, patterns = self.read_function_head()
        many = len(patterns)
        if (name, many) in ended:
            self.note("twice", place)
        if is_built(name, many):
            self.note("hides", place)
        clauses = [self.read_clause(patterns)]
        while self.passes(";"):
            place, other, patterns = self.read_function_head()
            if (other, len(patterns)) != (name, many):
                self.note("clauses", place)
            clauses.append(self.read_clause(patterns))
        self.want(STOP)
        return (name, many, tuple(clauses))

    def read_function_head(self):
        """A head: (its place, the name, the patterns)."""
        place = self.place_here()
        name = self.want(ATOM)
        patterns = self.read_head()
        if len(patterns) > MOST_PATTERNS:
            self.note("many", place)
        return place, name, patterns
