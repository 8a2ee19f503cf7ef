"""Texts of terms: each term has just one, which is read back sign by sign."""

from arrivalmill.errors import BadTerm, BadTermText
from arrivalmill.order import is_less
from arrivalmill.signs import FIGURES, KEYED, LONGEST_PATH, LONGEST_WORD, SMALL, WORD_SIGNS, atom_text
from arrivalmill.terms import is_term


def term_text(term):
    """The one text of a term."""
    if not is_term(term):
        raise BadTerm(term)
    return _text(term)


def _text(term):
    if isinstance(term, str):
        return atom_text(term)
    if isinstance(term, tuple):
        show = SHOWS[term[0]]
        return show(term)
    return str(term)


def _texts(terms):
    return ",".join([_text(term) for term in terms])


def _path_text(path):
    return ".".join([str(number) for number in path])


def _reference_text(term):
    return "#<" + _path_text(term[1]) + ":" + str(term[2]) + ">"


def _function_text(term):
    _, module, name, size, edition, held = term
    text = "fun " + _text(module) + ":" + _text(name) + "/" + str(size)
    if edition != 0:
        text += "@" + str(edition)
    if held:
        text += "[" + _texts(held) + "]"
    return text


def _process_text(term):
    return "<" + _path_text(term[1]) + ">"


def _tuple_text(term):
    return "{" + _texts(term[1:]) + "}"


def _map_text(term):
    pairs = [_text(key) + "=>" + _text(worth) for key, worth in term[1:]]
    return "#{" + ",".join(pairs) + "}"


def _list_text(term):
    return "[" + _texts(term[1:]) + "]"


def _odd_text(term):
    return "[" + _texts(term[1:-1]) + "|" + _text(term[-1]) + "]"


def _bytes_text(term):
    return "<<" + ",".join([str(number) for number in term[1:]]) + ">>"


SHOWS = {
    "ref": _reference_text, "fun": _function_text, "pid": _process_text, "tuple": _tuple_text, "map": _map_text,
    "list": _list_text, "odd": _odd_text, "bytes": _bytes_text,
}


def read_term(text):
    """The term whose text this is."""
    if not isinstance(text, str):
        raise BadTermText(-1)
    reader = TermReader(text)
    term = reader.read()
    if reader.at < len(text):
        raise BadTermText(reader.at)
    return term


class TermReader:
    """Goes through a text of a term; it raises at the first sign that cannot stand where it is."""

    def __init__(self, text):
        self.text = text
        self.at = 0

    def sign(self):
        """The sign that comes next; a line feed, which no text of a term has, behind the last one."""
        return self.text[self.at] if self.at < len(self.text) else "\n"

    def want(self, signs):
        """Passes by these signs, one behind the other."""
        for sign in signs:
            if self.sign() != sign:
                raise BadTermText(self.at)
            self.at += 1

    def passes(self, sign):
        """Passes by this sign, if it comes next, and tells whether it did."""
        if self.sign() != sign:
            return False
        self.at += 1
        return True

    def read(self):
        """The term that begins here."""
        sign = self.sign()
        if sign in FIGURES or sign == "-":
            return self.integer()
        if sign in SMALL:
            return self.bare()
        if sign == "'":
            return self.quoted()
        if sign == "{":
            self.at += 1
            return ("tuple", *self.row("}"))
        if sign == "[":
            self.at += 1
            return self.list_term()
        if sign == "<":
            return self.angled()
        self.want("#")
        if self.passes("<"):
            return self.reference()
        return self.chart()

    def figures(self, least):
        """A number from least, 0 or 1, on, without a sign."""
        begin = self.at
        if least == 0 and self.passes("0"):
            return 0
        if self.sign() not in FIGURES or self.sign() == "0":
            raise BadTermText(self.at)
        while self.sign() in FIGURES:
            self.at += 1
        return int(self.text[begin:self.at])

    def integer(self):
        """An integer."""
        if self.passes("-"):
            return -self.figures(1)
        return self.figures(0)

    def word_here(self):
        """The signs of a word that come next, as far as a word can go."""
        begin = self.at
        while self.sign() in WORD_SIGNS and self.at - begin < LONGEST_WORD:
            self.at += 1
        return self.text[begin:self.at]

    def bare(self):
        """What begins with a small letter: an atom without quotes, or a function."""
        word = self.word_here()
        if word == "fun" and self.passes(" "):
            return self.function()
        if word in KEYED:
            raise BadTermText(self.at)
        return word

    def quoted(self):
        """An atom between quotes, which must want them."""
        self.want("'")
        if self.sign() in SMALL:
            word = self.keyed_word()
        else:
            word = self.word_here()
        if not word:
            raise BadTermText(self.at)
        self.want("'")
        return word

    def keyed_word(self):
        """A keyed word, read as far as some keyed word goes on so."""
        begin = self.at
        while _begins_keyed(self.text[begin:self.at + 1]) and self.at < len(self.text):
            self.at += 1
        word = self.text[begin:self.at]
        if word not in KEYED:
            raise BadTermText(self.at)
        return word

    def atom(self):
        """An atom where no function can stand."""
        if self.sign() == "'":
            return self.quoted()
        if self.sign() not in SMALL:
            raise BadTermText(self.at)
        word = self.word_here()
        if word in KEYED:
            raise BadTermText(self.at)
        return word

    def function(self):
        """A function, behind its blank."""
        module = self.atom()
        self.want(":")
        name = self.figures(0) if self.sign() in FIGURES else self.atom()
        self.want("/")
        if self.sign() not in FIGURES:
            raise BadTermText(self.at)
        size = int(self.sign())
        self.at += 1
        if isinstance(name, str):
            edition = self.figures(1) if self.passes("@") else 0
            return ("fun", module, name, size, edition, ())
        self.want("@")
        edition = self.figures(1)
        held = ()
        if self.passes("["):
            held = self.filled_row("]")
        return ("fun", module, name, size, edition, held)

    def row(self, end):
        """None or more terms up to this sign."""
        if self.passes(end):
            return ()
        return self.filled_row(end)

    def filled_row(self, end):
        """One term or more up to this sign."""
        terms = [self.read()]
        while self.passes(","):
            terms.append(self.read())
        self.want(end)
        return tuple(terms)

    def list_term(self):
        """A list, odd or not, behind its bracket."""
        if self.passes("]"):
            return ("list",)
        terms = [self.read()]
        while self.passes(","):
            terms.append(self.read())
        if not self.passes("|"):
            self.want("]")
            return ("list", *terms)
        if self.sign() == "[":
            raise BadTermText(self.at)
        end = self.read()
        self.want("]")
        return ("odd", *terms, end)

    def angled(self):
        """A process, or bytes."""
        self.want("<")
        if self.passes("<"):
            return self.byte_row()
        path = self.path_term(">")
        self.want(">")
        return ("pid", path)

    def path_term(self, end):
        """The numbers of a path, up to this sign, which is left."""
        if self.sign() == end:
            return ()
        numbers = [self.figures(1)]
        while len(numbers) < LONGEST_PATH and self.passes("."):
            numbers.append(self.figures(1))
        return tuple(numbers)

    def reference(self):
        """A reference, behind its first two signs."""
        path = self.path_term(":")
        self.want(":")
        number = self.figures(1)
        self.want(">")
        return ("ref", path, number)

    def byte_row(self):
        """Bytes, behind their first two signs."""
        numbers = []
        if self.sign() != ">":
            numbers.append(self.byte())
            while self.passes(","):
                numbers.append(self.byte())
        self.want(">>")
        return ("bytes", *numbers)

    def byte(self):
        """A number from 0 to 255."""
        if self.passes("0"):
            return 0
        number = 0
        while self.sign() in FIGURES and number * 10 + int(self.sign()) < 256:
            number = number * 10 + int(self.sign())
            self.at += 1
        if number == 0:
            raise BadTermText(self.at)
        return number

    def chart(self):
        """A map, behind its first sign."""
        self.want("{")
        pairs = []
        if self.passes("}"):
            return ("map",)
        while not pairs or self.passes(","):
            begin = self.at
            key = self.read()
            self.want("=>")
            if pairs and not is_less(pairs[-1][0], key):
                raise BadTermText(begin)
            pairs.append((key, self.read()))
        self.want("}")
        return ("map", *pairs)


def _begins_keyed(signs):
    for word in KEYED:
        if word.startswith(signs):
            return True
    return False
