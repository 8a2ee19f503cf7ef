"""Section 6, reading: what texts are read to, and where they break off."""

import itertools
import random
import unittest

from arrivalmill.errors import BadForm, BadText, NoFunction
from arrivalmill.reading import Module, read_expression
from tests.earley import MODULES, WORDS, sentence

NIL, ANY = ("nil",), ("any",)
X, Y, Z = ("name", "X"), ("name", "Y"), ("name", "Z")
A, B, C = ("atom", "a"), ("atom", "b"), ("atom", "c")


def n(number):
    return ("number", number)


def conses(*parts, end=NIL):
    form = end
    for part in reversed(parts):
        form = ("cons", part, form)
    return form


def op(sign, *parts):
    return ("op", sign, parts)


def two(sign, one, other):
    words = {"orelse": "either", "andalso": "both"}
    return (words[sign], one, other) if sign in words else op(sign, one, other)


FORMS = {
    # words
    "12": n(12), "007": n(7), "2#101": n(5), "16#fF": n(255), "36#zZ": n(1295), "$a": n(97), "$$": n(36), "$'": n(39),
    "$\\n": n(10), "$\\t": n(9), "$\\s": n(32), "$\\\\": n(92), "$.": n(46), "ok": ("atom", "ok"), "'end'": ("atom", "end"),
    "'a'": A, "'1_@'": ("atom", "1_@"), "aB_@9": ("atom", "aB_@9"), "ending": ("atom", "ending"), "X": X,
    "_x": ("name", "_x"), "__": ("name", "__"), "_1": ("name", "_1"), "Abcdefghijklmno9": ("name", "Abcdefghijklmno9"),
    "abcdefghijklmnop": ("atom", "abcdefghijklmnop"), "'Abcdefghijklmnop'": ("atom", "Abcdefghijklmnop"), "255 + <<0>>": op("+", n(255), ("bytes", (0,))),
    "\"ab\"": conses(n(97), n(98)), "\"\"": NIL, "\"a\" \"b\"\n\"\"\"c\"": conses(n(97), n(98), n(99)),
    "\"\\\"\\\\\\n\\t\"": conses(n(34), n(92), n(10), n(9)), "  12\n": n(12), "X<-1": None, "X=<1": op("=<", X, n(1)),
    # the table of expressions
    "<<1, 255>>": ("bytes", (1, 255)), "<<>>": ("bytes", ()), "<<\"ab\", 0>>": ("bytes", (97, 98, 0)),
    "<<\"a\" \"b\", $c>>": ("bytes", (97, 98, 99)), "[]": NIL, "{}": ("tuple", ()), "{a, {b}}": ("tuple", (A, ("tuple", (B,)))),
    "[a | b]": ("cons", A, B), "[a, b | c]": conses(A, B, end=C), "[a, b]": conses(A, B), "[[a]]": conses(conses(A)),
    "#{}": ("map", ()), "#{a => b, X => c}": ("map", ((A, B), (X, C))),
    "X#{a => b, b := c}": ("put", X, (("=>", A, B), (":=", B, C))),
    "X#{a => b}#{b := c}": ("put", ("put", X, (("=>", A, B),)), ((":=", B, C),)),
    "X = a": ("match", X, A), "X ! a": ("send", X, A), "-X": op("-", X), "- 3": op("-", n(3)), "bnot X": op("bnot", X),
    "not X": op("not", X), "X andalso Y": ("both", X, Y), "X orelse Y": ("either", X, Y),
    "hd(X)": ("built", "hd", (X,)), "hd(X, Y)": ("call", "hd", (X, Y)), "self()": ("built", "self", ()),
    "f()": ("call", "f", ()), "f(X, Y)": ("call", "f", (X, Y)), "'end'(X)": ("call", "end", (X,)),
    "'div'(X, Y)": ("call", "div", (X, Y)), "spawn(X)": ("built", "spawn", (X,)), "spawn(X, Y)": ("call", "spawn", (X, Y)),
    "spawn(X, Y, Z)": ("built", "spawn", (X, Y, Z)), "apply(X, Y)": ("built", "apply", (X, Y)),
    "apply(X, Y, Z)": ("built", "apply", (X, Y, Z)), "exit(X, Y)": ("built", "exit", (X, Y)), "exit()": ("call", "exit", ()),
    "a:b(c)": ("outer", A, B, (C,)), "X:Y()": ("outer", X, Y, ()), "(f(a)):(g(b))()":
        ("outer", ("call", "f", (A,)), ("call", "g", (B,)), ()), "X(a)": ("apply", X, (A,)), "(a)(b)": ("apply", A, (B,)),
    "(a)": A, "((X))": X,
    "fun () -> a end": ("fun", (((), (), (A,)),)),
    "fun (X) when X -> a, b; (_) -> c end": ("fun", (((X,), ((X,),), (A, B)), ((ANY,), (), (C,)))),
    "fun X(Y) when Y -> a; X(a) -> X end": ("named", "X", (((Y,), ((Y,),), (A,)), ((A,), (), (X,)))),
    "fun f/1": ("local", "f", 1), "fun m:f/9": ("far", "m", "f", 9), "begin a, b end": ("do", (A, B)),
    "case X of a when X; Y, Z -> b; _ -> c end":
        ("case", X, (((A,), ((X,), (Y, Z)), (B,)), ((ANY,), (), (C,)))),
    "if X, Y; Z -> a; true -> b end": ("if", (((), ((X, Y), (Z,)), (A,)), ((), ((("atom", "true"),),), (B,)))),
    "receive X -> a end": ("receive", (((X,), (), (A,)),), ()),
    "receive X -> a; Y -> b after Z -> c, a end": ("receive", (((X,), (), (A,)), ((Y,), (), (B,))), (Z, (C, A))),
    "receive after X -> a end": ("receive", (), (X, (A,))),
    "try a, b of X -> a catch Y -> b; error:Z when Z -> c; _:a -> b; X:_ -> c after a, b end":
        ("try", (A, B), (((X,), (), (A,)),),
         (((("atom", "throw"), Y), (), (B,)), ((("atom", "error"), Z), ((Z,),), (C,)), ((ANY, A), (), (B,)),
          ((X, ANY), (), (C,))), (A, B)),
    "try a catch X -> b end": ("try", (A,), (), (((("atom", "throw"), X), (), (B,)),), ()),
    "try a after b end": ("try", (A,), (), (), (B,)), "try a of X -> b after c end": ("try", (A,), (((X,), (), (B,)),), (), (C,)),
    "try a catch X = Y -> b; error:X = Y -> c end": ("try", (A,), (), (
        ((("atom", "throw"), ("alias", X, Y)), (), (B,)), ((("atom", "error"), ("alias", X, Y)), (), (C,))), ()),
    "catch X": ("catch", X), "catch catch X = a": ("catch", ("catch", ("match", X, A))),
    "[X || X <- Y, Z, {a, _} <- Y]": ("list", X, (("from", X, Y), ("if", Z), ("from", ("tuple", (A, ANY)), Y))),
    "[X || X = Y <- Z]": ("list", X, (("from", ("alias", X, Y), Z),)), "[X || X = Y]": ("list", X, (("if", ("match", X, Y)),)),
    # patterns ahead of matches
    "-3 = X": ("match", n(-3), X), "_ = X": ("match", ANY, X), "{X, _} = Y": ("match", ("tuple", (X, ANY)), Y),
    "[X, _ | Y] = Z": ("match", conses(X, ANY, end=Y), Z), "#{a := X, -1 := _, (Y) := b} = Z":
        ("match", ("map", ((A, X), (n(-1), ANY), (Y, B))), Z), "#{} = X": ("match", ("map", ()), X),
    "\"ab\" ++ X = Y": ("match", conses(n(97), n(98), end=X), Y), "\"a\" ++ \"b\" ++ _ = Y": ("match", conses(n(97), n(98), end=ANY), Y),
    "\"ab\" = Y": ("match", conses(n(97), n(98)), Y), "<<1>> = X": ("match", ("bytes", (1,)), X),
    "{X = {_}, Y} = Z": ("match", ("tuple", (("alias", X, ("tuple", (ANY,))), Y)), Z), "(X = Y) = Z": ("match", ("alias", X, Y), Z),
    "X = {_} = Z": ("match", X, ("match", ("tuple", (ANY,)), Z)), "((_)) = X": ("match", ANY, X), "1 = X": ("match", n(1), X),
    "f(_ = X)": ("call", "f", (("match", ANY, X),)), "\"a\" ++ X": op("++", conses(n(97)), X),
    "(\"a\") ++ X": op("++", conses(n(97)), X), "#{X = a => b}": ("map", ((("match", X, A), B),)),
    "\"a\" ++ (X = _) = Y": ("match", conses(n(97), end=("alias", X, ANY)), Y), "\"a\" ++ -1 = Y": ("match", conses(n(97), end=n(-1)), Y),
    # how tight
    "X = Y ! Z": ("match", X, ("send", Y, Z)), "X ! Y = Z": ("send", X, ("match", Y, Z)), "X ! Y ! Z": ("send", X, ("send", Y, Z)),
    "X = Y = Z": ("match", X, ("match", Y, Z)), "X = a orelse b": ("match", X, ("either", A, B)),
    "a orelse b orelse c": ("either", A, ("either", B, C)), "a andalso b andalso c": ("both", A, ("both", B, C)),
    "a andalso b orelse c": ("either", ("both", A, B), C), "a orelse b andalso c": ("either", A, ("both", B, C)),
    "a == b andalso c": ("both", op("==", A, B), C), "a ++ b == c": op("==", op("++", A, B), C), "a == b ++ c": op("==", A, op("++", B, C)),
    "a ++ b -- c": op("++", A, op("--", B, C)), "a -- b ++ c": op("--", A, op("++", B, C)), "a + b ++ c": op("++", op("+", A, B), C),
    "a ++ b + c": op("++", A, op("+", B, C)), "a + b - c": op("-", op("+", A, B), C), "a bor b xor c": op("xor", op("bor", A, B), C),
    "a + b * c": op("+", A, op("*", B, C)), "a * b + c": op("+", op("*", A, B), C), "a * b div c": op("div", op("*", A, B), C),
    "a rem b band c and a": op("and", op("band", op("rem", A, B), C), A), "-a * b": op("*", op("-", A), B), "a - -b": op("-", A, op("-", B)),
    "a bsl b bsr c": op("bsr", op("bsl", A, B), C), "a or b * c": op("or", A, op("*", B, C)), "a bxor b": op("bxor", A, B),
    "-X#{a => b}": op("-", ("put", X, (("=>", A, B),))), "not a == b": op("==", op("not", A), B), "a:b(c)#{a => b}":
        ("put", ("outer", A, B, (C,)), (("=>", A, B),)), "2#{a => b}": ("put", n(2), (("=>", A, B),)), "(a + b) * c": op("*", op("+", A, B), C),
    "1--1": op("--", n(1), n(1)), "1 - -1": op("-", n(1), op("-", n(1))), "X==Y": op("==", X, Y), "X=:=Y": op("=:=", X, Y),
    "X=/=Y": op("=/=", X, Y), "X/=Y": op("/=", X, Y), "X>=Y": op(">=", X, Y), "X>Y": op(">", X, Y), "X<Y": op("<", X, Y),
    "{catch X, Y}": ("tuple", (("catch", X), Y)), "[catch X | catch Y]": ("cons", ("catch", X), ("catch", Y)),
    "#{catch X => catch Y}": ("map", ((("catch", X), ("catch", Y)),)), "case catch X of _ -> catch a end":
        ("case", ("catch", X), (((ANY,), (), (("catch", A),)),)), "[catch X || catch Y, Z <- catch X]":
        ("list", ("catch", X), (("if", ("catch", Y)), ("from", Z, ("catch", X)))), "(catch X)": ("catch", X),
    "receive after catch X -> a end": ("receive", (), (("catch", X), (A,))), "X#{catch a => X = b}":
        ("put", X, (("=>", ("catch", A), ("match", X, B)),)), "catch X ! Y": ("catch", ("send", X, Y)),
}

# The text, and the column of the first word that cannot stand.
WRONG = {
    "f(_)": 4, "1 + _": 5, "": 1, "  ": 3, "_": 2, "{_}": 4, "{_, f(X)}": 6, "{f(X), _}": 9, "[_ || X <- Y]": 4, "[X || _]": 8,
    "[X || X + 1 <- Y]": 13, "X = Y + 1 = Z": 11, "-(3) = X": 6, "(\"a\") ++ _": 10, "(\"a\") ++ X = Y": 12, "[a] ++ _": 8,
    "#{_ => a}": 5, "#{a := b}": 10, "#{{a} := b}": 7, "#{a := b, c => X}": 13, "#{a => b, c := X}": 13, "#{_ := a}": 5,
    "#{\"a\" := b}": 7, "#{a = b := c}": 9, "X#{}": 4, "X#{a}": 5, "X#{_ := a} = Y": 6, "X#{a := _} = Y": 10,
    "a == b == c": 8, "a < b =< c": 7, "(a == b) == c": None, "- - a": 3, "not not a": 5, "- not a": 3, "bnot - a": 6, "+ a": 1,
    "catch": 6, "X = catch Y": 5, "X ! catch Y": 5, "a + catch b": 5, "a andalso catch b": 11, "a orelse X = b": 12,
    "a + b = c": 7, "f(X) = Y": 6, "begin X end = Y": 13, "f(1)(2)": 5, "a:b": 4, "a:b:c()": 4, "a:b(X):c()": 7, "1:a()": 2,
    "a:1()": 3, "{a}:b()": 4, "1(2)": 2, "X(1)(2)": 5, "{X}(1)": 4, "[X, Y || Z]": 7, "[X | Y || Z]": 8, "[| X]": 2, "[X | Y, Z]": 7,
    "[X || ]": 7, "[X || Y <- ]": 12, "{X,}": 4, "f(X": 4, "f(X,": 5, "(": 2, "()": 2, "case X of end": 11, "case X of a b": 13,
    "case X of a when -> b end": 18, "case X of X + 1 -> a end": 13, "case X of f(a) -> b end": 12, "case X of a:b -> c end": 12,
    "case X of a -> b;": 18, "if -> a end": 4, "if X end": 6, "if _ -> a end": 4, "if X = Y -> a end": 6, "if catch X -> a end": 4,
    "receive end": 9, "receive X -> a after end": 22, "receive X -> a; after": 17, "try a end": 7, "try a of X -> b end": 17,
    "try a catch X:Y:Z -> b end": 16, "try a catch 1:X -> b end": 14, "try a catch {X}:Y -> b end": 16, "try a catch X = Y:Z -> b end": 18,
    "try a after b catch X -> c end": 15, "fun (X) -> a": 13, "fun (1 + X) -> a end": 8, "fun X(a) -> b; (c) -> d end": 16,
    "fun (a) -> b; X(c) -> d end": 15, "fun _(a) -> b end": 5, "fun X": 6, "fun f": 6, "fun f/10": 7, "fun f/X": 7, "fun m:f": 8,
    "fun X:f/1": 6, "fun m:X/1": 7, "fun f/-1": 7, "<<256>>": 3, "<<1,>>": 5, "<<a>>": 3, "<<-1>>": 3, "<<X>>": 3, "<<1": 4,
    "a.": 2, "a b": 3, "1.5": 2, "12ab": 3, "a , b": 3, "end": 1, "X end": 3, "begin a, end": 10, "begin end": 7, "X = ": 5,
    "2#12": 1, "2#": 3, "37#1": 1, "1#0": 1, "0#1": 1, "16#fg": 1, "''": 1, "'a b'": 1, "'abc": 1, "'abcdefghijklmnopq'": 1,
    "abcdefghijklmnopq": 1, "Abcdefghijklmnopq": 1, "\"a": 1, "\"a\nb\"": 1, "\"\\x\"": 1, "$": 1, "$ ": 1, "$\n": 1, "$\na": 1, "$\\x": 1, "$\\": 1,
    "?": 1, "a ? b": 3, "a & b": 3, "a ~ b": 3, "f(a;": 4, "X <- Y": 3, "a || b": 3, "a -> b": 3, "#{a}": 4, "#": 2, "# a": 3,
    "\"a\" ++": 7, "- ": 3, "fun (_ = 1 + 2) -> a end": 12, "fun (-X) -> a end": 7, "fun (\"a\" ++ X + 1) -> a end": 15,
    "fun (#{X + 1 := a}) -> a end": 10, "fun (#{{a} := a}) -> a end": 8, "fun ([X || a]) -> a end": 9, "fun (X#{a := b}) -> a end": 7,
    "case X of a when X, -> b end": 21, "X when Y": 3,
}


class Case(unittest.TestCase):
    def place(self, text, read=read_expression):
        try:
            read(text)
        except BadText as error:
            return error.value
        return None

    def bad_form(self, text, read=Module):
        with self.assertRaises(BadForm) as caught:
            read(text)
        return caught.exception.value


class Expressions(Case):
    def test_forms(self):
        for text, form in FORMS.items():
            if form is not None:
                self.assertEqual(form, read_expression(text), text)

    def test_each_operator_beside_each_other_one(self):
        rows = ("orelse", "andalso", "== /= =< < >= > =:= =/=", "++ --", "+ - bor bxor bsl bsr or xor", "* div rem band and")
        levels = {sign: level for level, row in enumerate(rows) for sign in row.split()}
        for one, other in itertools.product(levels, repeat=2):
            text = "a " + one + " b " + other + " c"
            to_left = levels[one] > levels[other] or (levels[one] == levels[other] and levels[one] > 3)
            if levels[one] == levels[other] == 2:
                self.assertEqual((1, 6 + len(one)), self.place(text))
            elif to_left:
                self.assertEqual(two(other, two(one, A, B), C), read_expression(text), text)
            else:
                self.assertEqual(two(one, A, two(other, B, C)), read_expression(text), text)
        for one, other in itertools.product(("-", "bnot", "not"), levels):
            self.assertEqual(two(other, op(one, A), op(one, B)), read_expression(one + " a " + other + " " + one + " b"))

    def test_words_parted_by_blanks_and_line_feeds(self):
        for text, form in FORMS.items():
            if form is not None and "\"" not in text:
                self.assertEqual(form, read_expression("\n  " + text.replace(" ", " \n ") + " \n"), text)

    def test_first_word_that_cannot_stand(self):
        for text, column in WRONG.items():
            self.assertEqual(None if column is None else (1, column), self.place(text), text)

    def test_lines(self):
        self.assertEqual((2, 1), self.place("f(\n"))
        self.assertEqual((3, 3), self.place("f(\n\n  ] x"))
        self.assertEqual((3, 1), self.place("{_,\n X}\n"))
        self.assertEqual((2, 5), self.place("{_,\n X} + 1"))
        self.assertEqual((3, 1), self.place("a +\n\n"))

    def test_what_is_no_string(self):
        for value in (1, None, True, (), ["a"], {}, ("name", "X"), Module("-module(m).")):
            self.assertEqual((0, 0), self.place(value))
            self.assertEqual((0, 0), self.place(value, Module))

    def test_words_changed_by_random_as_the_grammar_tells(self):
        chance = random.Random(6)
        spelled = {"ATOM": "a", "NAME": "X", "ANY": "_", "N9": "5", "N255": "77", "BIG": "300", "STRING": "\"ab\"", "STOP": ".\n"}
        for _ in range(3000):
            start = chance.choice(("W", "TEXT"))
            words = sentence(start, chance, chance.randint(3, 11))[:45]
            for _ in range(chance.choice((0, 1, 1, 2))):
                at = chance.randrange(len(words) + 1)
                words[at:at + chance.randint(0, 1)] = [chance.choice(WORDS)] * chance.randint(0, 1)
            texts = [spelled.get(word, word) + " " for word in words]
            wrong = MODULES.first_wrong(start, words)
            ahead = "".join(texts[:wrong])
            want = None if wrong is None else (ahead.count("\n") + 1, len(ahead) - ahead.rfind("\n"))
            try:
                got = self.place("".join(texts), Module if start == "TEXT" else read_expression)
            except BadForm:
                got = None
            self.assertEqual(want, got, "".join(texts))

    def test_deep_and_long_ones(self):
        deep = "case {" * 20 + "X" + "} of _ -> a end" * 20
        self.assertIsNone(self.place(deep))
        self.assertEqual((1, len(deep) + 2), self.place(deep + " X"))
        self.assertIsNone(self.place("fun () -> " * 40 + "a" + " end" * 40))
        self.assertEqual(conses(*[n(number) for number in range(100)]), read_expression(str(list(range(100)))))
        self.assertEqual(conses(*[n(97)] * 100), read_expression("\"" + "a" * 100 + "\""))

    def test_forms_that_break_rules(self):
        for text, value in {
                "fun (X) -> 1; (Y, Z) -> 2 end": ("fun", 1, 15), "fun F(X) -> 1; G(X) -> 2 end": ("fun", 1, 16),
                "fun F(X) -> 1; F() -> 2 end": ("fun", 1, 16), "fun (A,B,C,D,E,F,G,H,I,J) -> 1 end": ("many", 1, 5),
                "fun () -> 1; (A,B,C,D,E,F,G,H,I,J) -> 1 end": ("many", 1, 14), "if f() -> 1 end": ("guard", 1, 4),
                "fun X(A,B,C,D,E,F,G,H,I,J) -> 1 end": ("many", 1, 5)}.items():
            self.assertEqual(value, self.bad_form(text, read_expression), text)
        for text in ("fun (A,B,C,D,E,F,G,H,I) -> 1 end", "fun X(A,B,C,D,E,F,G,H,I) -> 1; X(A,B,C,D,E,F,G,H,I) -> 2 end"):
            self.assertEqual(9, len(read_expression(text)[-1][0][0]))

    def test_tests_that_are_none(self):
        lets = ("1", "a", "X", "<<1>>", "[]", "{X, 1}", "[X | Y]", "\"ab\"", "#{a => X}", "X + 1", "-X", "not X", "X == 1",
                "X andalso Y", "X orelse Y", "hd(X)", "self()", "is_function(X, 1)", "element(1, X)", "(X)", "map_get(X, Y)",
                "is_map_key(X, Y)", "min(X, Y)", "bnot X", "X bsl 1", "length([X])", "X =< Y", "map_size(X) > tuple_size(Y)")
        none = ("f(X)", "X ++ Y", "X -- Y", "setelement(1, X, Y)", "make_ref()", "apply(X, Y)", "throw(X)", "spawn(X)", "X(1)",
                "a:b(1)", "X#{a => 1}", "fun f/1", "begin X end", "case X of _ -> a end", "[X || X <- Y]", "(X = Y)", "(catch X)",
                "{f(X)}", "[1, f(X)]", "hd(f(X))", "X andalso f(X)", "#{a => f(X)}", "not f(X)", "(X ! Y)", "tuple_to_list(X)",
                "hd(X, Y)", "is_atom()", "list_to_tuple(X)", "fun () -> a end", "receive X -> a end", "1 + {X -- Y}")
        for test in lets:
            read_expression("if " + test + " -> a end")
        for test in none:
            self.assertEqual(("guard", 1, 4), self.bad_form("if " + test + " -> a end", read_expression), test)
            self.assertEqual(("guard", 1, 9), self.bad_form("if X, Y;" + test + ", " + test + " -> a end", read_expression))


class Modules(Case):
    TEXT = "-module(m).\n-export([g/0, f/2]). -export(['end'/1]).\nf(X, Y) when X -> Y; f(_, _) -> a.\ng() -> 1.\n'end'(X) -> X."

    def test_what_a_module_tells(self):
        one = Module(self.TEXT)
        first = ((X, Y), ((X,),), (Y,))
        second = ((ANY, ANY), (), (A,))
        self.assertEqual(self.TEXT, one.text)
        self.assertEqual("m", one.name)
        self.assertEqual((("end", 1), ("f", 2), ("g", 0)), one.exports)
        self.assertEqual((("f", 2), ("g", 0), ("end", 1)), one.functions)
        self.assertEqual(("module", "m", one.exports, (("f", 2, (first, second)), ("g", 0, (((), (), (n(1),)),)),
                                                       ("end", 1, (((X,), (), (X,)),)))), one.forms)
        self.assertEqual((first, second), one.clauses("f", 2))
        self.assertEqual(3, len(one))
        self.assertEqual(0, len(Module("-module(m).")))
        self.assertEqual((), Module("- module ( 'm' ) . -export([]).").exports)

    def test_which_functions_it_has(self):
        one = Module(self.TEXT)
        for entry in (("f", 2), ("g", 0), ("end", 1)):
            self.assertTrue(entry in one)
        for entry in (("f", 1), ("f", True), ["f", 2], "f", ("f",), ("f", 2, 1), None, 2, (1, 2), ("f", "2"), ((), [])):
            self.assertFalse(entry in one, entry)
        for name, many in (("f", 1), ("h", 0), ("g", False), (None, 0), ([], {}), (one, one)):
            with self.assertRaises(NoFunction) as caught:
                one.clauses(name, many)
            self.assertEqual((name, many), caught.exception.value)
            self.assertIs(many, caught.exception.value[1])

    def test_equality(self):
        one = Module("-module(m). f() -> 1.")
        self.assertTrue(one == Module("-module(m).\n\nf() ->\n 1 ."))
        self.assertFalse(one != Module("-module(m). f() -> (1)."))
        for other in (Module("-module(m). f() -> 2."), Module("-module(n). f() -> 1."), one.forms, one.text, 1, None, "m"):
            self.assertFalse(one == other)
            self.assertTrue(one != other)

    def test_words_that_cannot_stand(self):
        for text, place in {
                "": (1, 1), "\n": (2, 1), "m": (1, 1), "-modul(m).": (1, 2), "-module(M).": (1, 9), "-module(m)": (1, 11),
                "-module(m)x": (1, 11), "-module(m).x": (1, 11), "-module(m). x": (1, 14), "-module(m). x()": (1, 16),
                "-module(m). f() -> 1": (1, 21), "-module(m). f() -> 1.f() -> 2.": (1, 21), "-module(m). f() -> 1;": (1, 22),
                "-module(m). f() -> 1. -export([f/0]).": (1, 23), "-module(m). -module(n).": (1, 14),
                "-module(m). -export([f/10]).": (1, 24), "-module(m). -export(f/1).": (1, 21), "-module(m). -export([f]).": (1, 23),
                "-module(m). -export([f/1,]).": (1, 26), "-module(m). -export([F/1]).": (1, 22), "-module(m). f(X + 1) -> 1.": (1, 17),
                "-module(m). X() -> 1.": (1, 13), "-module(m).\nend() -> 1.": (2, 1), "-module(m). f() -> _.": (1, 21),
                "-module(m). f() when _ -> 1.": (1, 22), "-module(m). f() -> 1. .": (1, 23), "-module(end).": (1, 9),
                "-module(m). f() -> 1; () -> 2.": (1, 23)}.items():
            self.assertEqual(place, self.place(text, Module), text)

    def test_rules_each_twice(self):
        head = "-module(m). "
        ten = "A,B,C,D,E,F,G,H,I,J"
        for text, value in {
                "f() -> 1. g() -> 2. f() -> 3.": ("twice", 1, 33), "f(X) -> 1.\nf(Y) -> 2.": ("twice", 2, 1),
                "-export([f/0, f/0]). f() -> 1.": ("twice", 1, 27), "-export([f/0]).\n-export([f/0]). f() -> 1.": ("twice", 2, 10),
                "f() -> 1; g() -> 2.": ("clauses", 1, 23), "f() -> 1;\n f(X) -> 2.": ("clauses", 2, 2),
                "self() -> 1.": ("hides", 1, 13), "f() -> 1. spawn(X) -> 2.": ("hides", 1, 23), "is_function(X, Y) -> 1.": ("hides", 1, 13),
                "whereis(X) -> 1.": ("hides", 1, 13), "'apply'(X, Y, Z) -> 1.": ("hides", 1, 13),
                "f(" + ten + ") -> 1.": ("many", 1, 13), "f() -> fun (" + ten + ") -> 1 end.": ("many", 1, 24),
                "f(X) -> fun (Y) -> 1; (Y, Z) -> 2 end.": ("fun", 1, 35), "f() -> fun F() -> 1; G() -> 2 end.": ("fun", 1, 34),
                "f(X) when f(X) -> 1.": ("guard", 1, 23), "f(X) -> case X of 1 when X, X ++ X -> 1 end.": ("guard", 1, 41),
                "-export([f/0]).": ("export", 1, 22), "-export([f/1, g/0]). f(X) -> X.": ("export", 1, 27)}.items():
            self.assertEqual(value, self.bad_form(head + text), text)

    def test_what_breaks_no_rule(self):
        Module("-module(m). f(A,B,C,D,E,F,G,H,I) -> 1. f() -> 2. self(X) -> 3. spawn(X, Y) -> 4. 'div'(X, Y) -> 5.")

    def test_the_first_place_and_there_the_first_word(self):
        head = "-module(m).\n"
        ten = "A,B,C,D,E,F,G,H,I,J"
        for text, value in {
                "-export([g/0]). f(X) when f(X) -> 1; h() -> 2. self() -> 1.": ("export", 2, 10),
                "f(X) when f(X) -> 1; h() -> 2. self() -> 1.": ("guard", 2, 11), "self() -> 1. self() -> 2.": ("hides", 2, 1),
                "f() -> 1; g(" + ten + ") -> 2.": ("clauses", 2, 11), "f() -> fun () -> 1; (" + ten + ") -> 2 end.": ("many", 2, 21),
                "-export([f/0, f/0]).": ("export", 2, 10), "f() -> 1. f() -> 2; g() -> fun () -> 1; (X) -> 2 end.": ("twice", 2, 11),
                "self() -> 1; f() -> 2.": ("hides", 2, 1)}.items():
            self.assertEqual(value, self.bad_form(head + text), text)

    def test_texts_come_ahead_of_rules(self):
        self.assertEqual((1, 34), self.place("-module(m). self() -> 1. f() -> 1", Module))


if __name__ == "__main__":
    unittest.main()
