"""Reads expressions, and patterns, which begin alike: what something is may be told by what stands behind it."""

from arrivalmill.clausing import ClauseReader
from arrivalmill.covers import EITHER, EXPRESSION, KEY, PATTERN, Cover, is_one
from arrivalmill.errors import BadText
from arrivalmill.forms import consed
from arrivalmill.lexing import ANY, ATOM, NAME, NUMBER, STRING
from arrivalmill.tables import COMPARED, JOINED, LEVELS, is_built

KEYED_FIRSTS = ("begin", "case", "if", "receive", "try", "fun")
PLAIN_FIRSTS = {"NUMBER": "number", "ATOM": "atom", "NAME": "name"}
NIL_FORM = ("nil",)


class ExpressionReader(ClauseReader):
    """A reader of expressions. What may stand at a place is handed on as the bits of what it may be (covers)."""

    def fail(self):
        """The next word cannot stand here."""
        raise BadText(self.place_here())

    def whole(self, may):
        """A whole expression, a pattern or a map's key."""
        if self.kind() == "catch" and may & EXPRESSION:
            self.take()
            return Cover(EXPRESSION, ("catch", self.read_whole()), None)
        return self.matched(may)

    def matched(self, may):
        """What may be a match, or a letter that is sent. Whatever it is to be, a match may begin with a pattern."""
        first = self.binary(0, may | PATTERN if may & EITHER else may)
        if self.kind() == "=" and may & EITHER and is_one(first, PATTERN):
            self.take()
            return _match_of(first.pattern, self.matched(may & EITHER))
        if self.kind() == "!" and may & EXPRESSION and is_one(first, EXPRESSION):
            self.take()
            letter = self.matched(EXPRESSION)
            return Cover(EXPRESSION, ("send", first.expression, letter.expression), None)
        if not is_one(first, may):
            self.fail()
        return Cover(first.can & may, first.expression, first.pattern)

    def binary(self, floor, may):
        """What operators from this level on hold together."""
        begin = self.at
        left = self.unary(may)
        bare = self.kind_of_one(begin) == STRING
        ceiling = LEVELS["*"]
        while True:
            sign = self.kind()
            level = LEVELS.get(sign, -1)
            if not floor <= level <= ceiling:
                return left
            opens = EXPRESSION
            if sign == "++" and bare:
                opens = left.can & EITHER
            elif not is_one(left, EXPRESSION):
                return left
            self.take()
            to_left = level > JOINED
            right = self.binary(level + 1 if to_left or level == COMPARED else level, opens)
            left = _joined(sign, left, right)
            bare = False
            ceiling = level if to_left else level - 1

    def kind_of_one(self, begin):
        """The kind of the word at a place, if just this one was read behind it; otherwise none."""
        return self.words[begin][0] if self.at == begin + 1 else ""

    def unary(self, may):
        """What has one operator ahead of it at most."""
        kind = self.kind()
        if kind == "-":
            return self.negative(may)
        if (kind == "not" or kind == "bnot") and may & EXPRESSION:
            self.take()
            inner = self.postfixed(EXPRESSION)
            return Cover(EXPRESSION, ("op", kind, (inner.expression,)), None)
        return self.postfixed(may)

    def negative(self, may):
        """What stands behind a minus: a number may be a pattern with it."""
        self.want("-")
        if not may & EXPRESSION:
            return Cover(may & (PATTERN | KEY), None, ("number", -self.want(NUMBER)))
        begin = self.at
        inner = self.postfixed(EXPRESSION)
        form = ("op", "-", (inner.expression,))
        if self.kind_of_one(begin) == NUMBER:
            return Cover(may, form, ("number", -inner.expression[1]))
        return Cover(EXPRESSION, form, None)

    def postfixed(self, may):
        """What may have rows of maps behind it."""
        cover = self.primary(may)
        while self.kind() == "#" and is_one(cover, EXPRESSION):
            self.take()
            self.want("{")
            rows = [self.put_row()]
            while self.passes(","):
                rows.append(self.put_row())
            self.want("}")
            cover = Cover(EXPRESSION, ("put", cover.expression, tuple(rows)), None)
        return cover

    def put_row(self):
        """A row that is put to a map."""
        key = self.read_whole()
        sign = self.kind()
        if sign != "=>" and sign != ":=":
            self.fail()
        self.take()
        return (sign, key, self.read_whole())

    def primary(self, may):
        """What no operator stands in, but within signs of its own."""
        kind = self.kind()
        if kind in PLAIN_FIRSTS:
            return self.plain(may)
        if kind == "(":
            self.take()
            cover = self.whole(may)
            self.want(")")
            return self.called(cover, ("apply", cover.expression))
        if kind in KEYED_FIRSTS and may & EXPRESSION:
            return Cover(EXPRESSION, self.read_keyed(), None)
        if kind == ANY and may & PATTERN:
            self.take()
            return Cover(PATTERN, None, ("any",))
        if not may & EITHER:
            self.fail()
        return self.bracketed(may & EITHER)

    def plain(self, may):
        """A number, an atom or a name, and what is called by these."""
        kind = self.kind()
        form = (PLAIN_FIRSTS[kind], self.take())
        cover = Cover(may, form, form)
        if kind == NUMBER:
            return cover
        return self.called(cover, ("call", form[1]) if kind == ATOM else ("apply", form))

    def called(self, cover, start):
        """What is called, if something is: start is the beginning of the form of such a call."""
        if not is_one(cover, EXPRESSION):
            return cover
        if self.kind() == "(":
            arguments = self.arguments()
            if start[0] == "call" and is_built(start[1], len(arguments)):
                start = ("built", start[1])
            return Cover(EXPRESSION, (*start, arguments), None)
        if self.passes(":"):
            name = self.beside_colon()
            return Cover(EXPRESSION, ("outer", cover.expression, name, self.arguments()), None)
        return cover

    def beside_colon(self):
        """What stands on the right of a colon: an atom, a name, or something within round signs."""
        kind = self.kind()
        if kind == ATOM or kind == NAME:
            return (PLAIN_FIRSTS[kind], self.take())
        self.want("(")
        form = self.read_whole()
        self.want(")")
        return form

    def arguments(self):
        """The arguments of a call, within round signs."""
        self.want("(")
        if self.passes(")"):
            return ()
        forms = self.read_body()
        self.want(")")
        return forms

    def bracketed(self, may):
        """A string, bytes, a list, a tuple or a map."""
        kind = self.kind()
        if kind == STRING:
            numbers = self.take()
            form = consed([("number", number) for number in numbers], NIL_FORM)
            return Cover(may, form, form)
        if self.passes("<<"):
            form = ("bytes", self.byte_parts())
            return Cover(may, form, form)
        if self.passes("["):
            return self.list_parts(may)
        if self.passes("{"):
            return self.tuple_parts(may)
        self.want("#")
        self.want("{")
        return self.map_rows(may)

    def byte_parts(self):
        """The numbers of bytes, behind their first sign."""
        numbers = []
        if not self.passes(">>"):
            numbers.extend(self.byte_part())
            while self.passes(","):
                numbers.extend(self.byte_part())
            self.want(">>")
        return tuple(numbers)

    def byte_part(self):
        """The numbers of a part of bytes."""
        return self.take() if self.kind() == STRING else (self.read_number(255),)

    def tuple_parts(self, may):
        """A tuple, behind its first sign."""
        parts = []
        if not self.passes("}"):
            parts, may = self.parts(parts, may)
            self.want("}")
        expressions, patterns = _forms_of(parts, may)
        return Cover(may, ("tuple", expressions), ("tuple", patterns))

    def parts(self, parts, may):
        """Parts with one more, or more, behind them, and what all together may be."""
        cover = self.whole(may)
        found = [*parts, cover]
        while self.passes(","):
            cover = self.whole(cover.can)
            found.append(cover)
        return found, cover.can

    def list_parts(self, may):
        """A list, behind its first sign."""
        if self.passes("]"):
            return Cover(may, NIL_FORM, NIL_FORM)
        first = self.whole(may)
        if self.kind() == "||" and is_one(first, EXPRESSION):
            return self.ways(first.expression)
        parts, may = [first], first.can
        if self.passes(","):
            parts, may = self.parts(parts, may)
        end = Cover(may, NIL_FORM, NIL_FORM)
        if self.passes("|"):
            end = self.whole(may)
        self.want("]")
        expressions, patterns = _forms_of(parts, end.can)
        return Cover(end.can, consed(expressions, end.expression), consed(patterns, end.pattern))

    def ways(self, form):
        """The ways of a list, behind the expression of its parts."""
        self.want("||")
        ways = [self.way()]
        while self.passes(","):
            ways.append(self.way())
        self.want("]")
        return Cover(EXPRESSION, ("list", form, tuple(ways)), None)

    def way(self):
        """One way: a pattern with a list, or a test."""
        cover = self.whole(EITHER)
        if is_one(cover, PATTERN) and self.passes("<-"):
            return ("from", cover.pattern, self.read_whole())
        if not is_one(cover, EXPRESSION):
            self.fail()
        return ("if", cover.expression)

    def map_rows(self, may):
        """A map, behind its first signs."""
        rows = []
        if not self.passes("}"):
            while not rows or self.passes(","):
                key, may = self.map_key(may)
                rows.append((key, self.whole(may)))
            self.want("}")
        expressions = tuple((key.expression, worth.expression) for key, worth in rows)
        patterns = tuple((key.pattern, worth.pattern) for key, worth in rows)
        return Cover(may, ("map", expressions), ("map", patterns))

    def map_key(self, may):
        """The key of a row with its sign, which tells what the map is: (key, what it is)."""
        key = self.whole(may & EXPRESSION | (KEY if may & PATTERN else 0))
        if is_one(key, EXPRESSION) and self.passes("=>"):
            return key, EXPRESSION
        if not is_one(key, KEY):
            self.fail()
        self.want(":=")
        return key, PATTERN


def _match_of(pattern, right):
    """The match, or the alias, of a pattern and what stands on the right of it."""
    return Cover(right.can, ("match", pattern, right.expression), ("alias", pattern, right.pattern))


def _joined(sign, left, right):
    """What an operator makes of both its sides; a string ahead of ++ may stand in a pattern."""
    if sign == "orelse" or sign == "andalso":
        word = "either" if sign == "orelse" else "both"
        return Cover(EXPRESSION, (word, left.expression, right.expression), None)
    form = ("op", sign, (left.expression, right.expression))
    if not is_one(right, PATTERN):
        return Cover(EXPRESSION, form, None)
    return Cover(right.can, form, _ahead_of(left.pattern, right.pattern))


def _ahead_of(string, pattern):
    """The pattern of a string's numbers, and a pattern behind them."""
    parts = []
    while string[0] == "cons":
        parts.append(string[1])
        string = string[2]
    return consed(parts, pattern)


def _forms_of(covers, may):
    """The forms of parts as expressions, and as patterns, each if they may be so."""
    expressions = tuple(cover.expression for cover in covers) if may & EXPRESSION else ()
    patterns = tuple(cover.pattern for cover in covers) if may & PATTERN else ()
    return expressions, patterns
