"""Section 5: texts of terms."""

import random
import unittest

from arrivalmill.errors import BadTerm, BadTermText
from arrivalmill.reading import Module
from arrivalmill.termtext import read_term, term_text
from tests.earley import Grammar, rules_of
from tests.values import ASCENDING, NIL, NO_TERMS, term

KEYED = ("after and andalso band begin bnot bor bsl bsr bxor case catch div end fun if not of or orelse receive rem try "
         "when xor").split()
SMALL = "abcdefghijklmnopqrstuvwxyz"
WORD = SMALL + SMALL.upper() + "0123456789_@"

# Signs parted by blanks; E is a blank itself. What atoms may be, sign by sign, is told below.
TERMS = """
T = END | LIST
END = NUMBER | - POSITIVE | ATOM | f u n E ATOM : ATOM / F | f u n E ATOM : ATOM / F @ POSITIVE
END = f u n E ATOM : NUMBER / F @ POSITIVE | f u n E ATOM : NUMBER / F @ POSITIVE [ ROW ]
END = # < PATH : POSITIVE > | < PATH > | { } | { ROW } | # { } | # { PAIRS }
END = < < > > | < < BYTES > >
LIST = [ ] | [ ROW ] | [ ROW BAR END ]
ROW = T | ROW , T
PAIRS = T = > T | PAIRS , T = > T
NUMBER = 0 | POSITIVE
POSITIVE = N | POSITIVE F
PATH = | STEPS
STEPS = POSITIVE | STEPS . POSITIVE
BYTES = BYTE | BYTES , BYTE
BYTE = 0 | N | N F | 1 F F | 2 U F | 2 5 V
"""


def grammar():
    """The grammar of texts of terms, but for the sequence of keys, and how long paths can be."""
    rules = rules_of(TERMS)
    classes = {"F": "0123456789", "N": "123456789", "U": "01234", "V": "012345", "BAR": "|", "E": " "}
    rules["ATOM"] = [("bare:",), ("'", "great1"), *[("'", *word, "'") for word in KEYED]]
    classes["small"], classes["word"] = SMALL, WORD
    classes["begin"] = "".join(sign for sign in WORD if sign not in SMALL)
    rules["great1"] = [("begin", "great")]
    rules["great"] = [("'",), *[("word",) * many + ("'",) for many in range(1, 16)]]
    heads = {word[:size] for word in KEYED for size in range(len(word) + 1)}
    for head in heads:
        further = {word[len(head)] for word in KEYED if word.startswith(head) and len(word) > len(head)}
        ways = [(sign, "bare:" + head + sign) for sign in sorted(further)]
        other = "other:" + head
        classes[other] = "".join(sign for sign in (WORD if head else SMALL) if sign not in further)
        ways.append((other, "free:" + str(len(head) + 1)))
        rules["bare:" + head] = ways + ([()] if head and head not in KEYED else [])
    for many in range(1, 17):
        rules["free:" + str(many)] = [(), ("word", "free:" + str(many + 1))] if many < 16 else [()]
    return Grammar(rules, classes)


GRAMMAR = grammar()
TEXTS = {
    0: "0", -12: "-12", 10 ** 40: "1" + "0" * 40, "a": "a", "aB_@9": "aB_@9", "EXIT": "'EXIT'", "_": "'_'", "@": "'@'",
    "0": "'0'", "ending": "ending", ("ref", (), 1): "#<:1>", ("ref", (1, 20), 3): "#<1.20:3>",
    ("fun", "m", "f", 2, 0, ()): "fun m:f/2", ("fun", "m", "f", 2, 13, ()): "fun m:f/2@13",
    ("fun", "M", "end", 0, 0, ()): "fun 'M':'end'/0", ("fun", "fun", "fun", 0, 0, ()): "fun 'fun':'fun'/0",
    ("fun", "m", 0, 1, 3, ("a",)): "fun m:0/1@3[a]", ("fun", "m", 12, 9, 1, ()): "fun m:12/9@1",
    ("fun", "m", 0, 1, 3, (1, NIL)): "fun m:0/1@3[1,[]]",
    ("pid", ()): "<>", ("pid", (2,)): "<2>", ("pid", (2, 10)): "<2.10>",
    ("tuple",): "{}", ("tuple", 1, "end"): "{1,'end'}", ("map",): "#{}", ("map", (1, 2)): "#{1=>2}",
    ("map", (1, 2), ("a", NIL)): "#{1=>2,a=>[]}", NIL: "[]", ("list", 1): "[1]", ("list", 1, 2): "[1,2]",
    ("odd", 1, 2): "[1|2]", ("odd", 1, 2, "c"): "[1,2|c]", ("odd", -1, ("tuple",)): "[-1|{}]",
    ("bytes",): "<<>>", ("bytes", 0): "<<0>>", ("bytes", 0, 255): "<<0,255>>",
}
# The text, and the place of the first sign that cannot stand.
WRONG = {
    "01": 1, "<0>": 1, "'a'": 2, "{end}": 4, "[1|[]]": 3, "#{b=>1,a}": 8, "#{b=>1,a=>2}": 7,
    "": 0, " ": 0, "-": 1, "-0": 1, "--1": 1, "1 ": 1, " 1": 0, "1,": 1, "A": 0, "_": 0, "\n": 0, "a\n": 1, "a b": 1,
    "end": 3, "en d": 2, "''": 1, "'": 1, "'A": 2, "'an": 3, "'andx'": 4, "'and": 4, "'g": 1, "'funx'": 4, "'A B'": 2,
    "abcdefghijklmnopq": 16, "'Abcdefghijklmnopq'": 17, "abcdefghijklmnop'": 16,
    "fun": 3, "fun ": 4, "fun  m:f/1": 4, "fun m": 5, "fun m:": 6, "fun m:f": 7, "fun m:f/": 8, "fun m:f/10": 9,
    "fun m:f/1@": 10, "fun m:f/1@0": 10, "fun m:f/1[a]": 9, "fun m:f/1@1[a]": 11, "fun m:0/1": 9, "fun m:0/1[": 9,
    "fun m:01/1@1": 7, "fun m:0/1@1[]": 12, "fun m:0/1@1[a": 13, "fun m:0/1@1[a|b]": 13, "fun fun:f/1": 7,
    "fun fun m:f/1": 7, "fun m:end/1": 9, "fun 1:f/1": 4, "fun m:-1/1@1": 6,
    "<": 1, "<1": 2, "<1.": 3, "<1.0>": 3, "<01>": 1, "<1.2.>": 5, "< 1>": 1, "<1,2>": 2,
    "<<": 2, "<<>": 3, "<<256>>": 4, "<<260>>": 4, "<<1000>>": 5, "<<25": 4, "<<01>>": 3, "<<1,>>": 4, "<<-1>>": 2,
    "<<a>>": 2, "<<1>": 4, "<<300>>": 4, "#": 1, "#<": 2, "#<>": 2, "#<:0>": 3, "#<:1": 4, "#<1>": 3, "#a": 1,
    "#{": 2, "#{1}": 3, "#{1=}": 4, "#{1=>}": 5, "#{1=>2": 6, "#{1=>2,}": 7, "#{1=>2,1=>3}": 7, "#{1=>2,0=>}": 7,
    "#{1=>2,0=x": 9, "#{#{b=>1,a=>2}=>3}": 9, "#{2=>#{b=>1,a=>1},1=>1}": 12, "#{[1]=>0,[1|2]=>0}": 9, "#{a=>1|": 6,
    "{": 1, "{1": 2, "{1,": 3, "{,": 1, "{1|2}": 2, "[": 1, "[1": 2, "[|": 1, "[1|": 3, "[1|2": 4, "[1|2,3]": 4,
    "[1|2|3]": 4, "[1,]": 3, "[1|[2]]": 3, "]": 0, "}": 0, "[1}": 2, "1.5": 1, "12a": 2, "fun.": 3, "\"a\"": 0,
}


class TermText(unittest.TestCase):
    def bad(self, text):
        with self.assertRaises(BadTermText) as caught:
            read_term(text)
        return caught.exception.value

    def place(self, text):
        try:
            read_term(text)
        except BadTermText as error:
            return error.value
        return None

    def test_each_row_of_the_table_there_and_back(self):
        for one, text in TEXTS.items():
            self.assertEqual(text, term_text(one))
            self.assertEqual(one, read_term(text))
        for word in KEYED:
            self.assertEqual("'" + word + "'", term_text(word))
            self.assertEqual(word, read_term("'" + word + "'"))

    def test_terms_of_all_kinds_there_and_back(self):
        chance = random.Random(1)
        path = tuple(range(1, 41))
        for one in (*ASCENDING, *[term(chance, 4) for _ in range(500)], ("pid", path), ("ref", path, 1)):
            self.assertEqual(one, read_term(term_text(one)))

    def test_what_is_no_term(self):
        for value in (*NO_TERMS, Module("-module(m).")):
            with self.assertRaises(BadTerm) as caught:
                term_text(value)
            self.assertIs(value, caught.exception.value)

    def test_what_is_no_string(self):
        for value in (1, None, True, (), [], ["a"], {}, ("list",), Module("-module(m).")):
            self.assertEqual(-1, self.bad(value))

    def test_places(self):
        for text, place in WRONG.items():
            self.assertEqual(place, self.bad(text), text)

    def test_paths_of_forty_one_numbers(self):
        path = ".".join(["1"] * 40)
        self.assertEqual(len(path) + 1, self.bad("<" + path + ".1>"))
        self.assertEqual(len(path) + 2, self.bad("#<" + path + ".1:1>"))

    def test_beginnings_are_too_short_or_terms(self):
        chance = random.Random(2)
        for one in (*ASCENDING, *[term(chance, 3) for _ in range(150)]):
            text = term_text(one)
            for size in range(len(text)):
                self.assertIn(self.place(text[:size]), (None, size), text[:size])

    def test_changed_texts_as_the_grammar_tells(self):
        chance = random.Random(3)
        signs = "a1e0'-#<>{}[]|,=:/@. nfE"
        texts = [text for text in TEXTS.values() if "=>" not in text]
        for _ in range(2500):
            text = chance.choice(texts)
            at = chance.randrange(len(text))
            text = chance.choice((
                text[:at] + text[at + 1:], text[:at] + chance.choice(signs) + text[at:], text[:at] + text[at] + text[at:],
                text[:at] + chance.choice(signs) + text[at + 1:], text[:at] + text[at + 1:at + 2] + text[at] + text[at + 2:]))
            self.assertEqual(GRAMMAR.first_wrong("T", text), self.place(text), text)

    def test_short_texts_as_the_grammar_tells(self):
        signs = "a1'-<>{[]|,#n0:"
        for one in signs:
            for two in signs:
                for three in signs:
                    text = one + two + three
                    self.assertEqual(GRAMMAR.first_wrong("T", text), self.place(text), text)

    def test_the_worked_example(self):
        told = [term_text(("tuple", "ok", "EXIT", "end", ("odd", -1, "c"))), term_text(("fun", "m", 0, 1, 3, ("a",))),
                term_text(("map", (1, ("bytes", 0, 255))))]
        self.assertEqual(["{ok,'EXIT','end',[-1|c]}", "fun m:0/1@3[a]", "#{1=><<0,255>>}"], told)


if __name__ == "__main__":
    unittest.main()
