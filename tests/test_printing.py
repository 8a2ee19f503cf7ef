"""Section 6, printing: the one text that is described, and back."""

import random
import unittest

from arrivalmill.errors import BadForm, BadText
from arrivalmill.printing import show_expression, show_module, show_pattern
from arrivalmill.reading import Module, read_expression
from tests.making import expression, pattern
from tests.test_reading import FORMS

# Texts that are printed as they stand.
SAME = (
    "12", "ok", "'end'", "'Big'", "'1'", "X", "<<1, 255>>", "<<>>", "[]", "{}", "{a, {b}}", "[X | Y]", "[X, Y | Z]", "[X, Y]",
    "[[X], []]", "#{}", "#{a => b, X => c}", "X#{a => b, b := c}", "X#{a => b}#{b := c}", "f(X)#{a => b}",
    "2#{a => b}", "[X]#{a => b}", "begin X end#{a => b}", "(-X)#{a => b}", "-X#{a => b}", "X = Y", "X = Y = Z", "(X = Y) = Z",
    "X == Y andalso Z == X", "X == Y orelse Z == X", "X andalso Y orelse Z andalso X", "X + Y == Z * X", "X ++ Y == Z ++ X",
    "X orelse Y ! Z orelse X", "X = Y orelse Z", "X + Y ++ Z + X", "X * Y + Z * X", "-X * -Y", "not X == not Y", "-X#{a => b} * Y",
    "X ! Y ! Z", "(X ! Y) ! Z", "X = Y ! Z", "X ! Y = Z", "(X = Y) ! Z", "-X", "-3", "-(-3)", "-(not X)", "not (-X)",
    "bnot X", "not (X and Y)", "not X == Y", "-(X + Y)", "-f(X)", "X - -Y", "X andalso Y andalso Z", "(X andalso Y) andalso Z",
    "X orelse Y orelse Z", "(X orelse Y) orelse Z", "(X orelse Y) andalso Z", "X andalso (Y orelse Z)", "X andalso Y orelse Z",
    "X == Y", "(X == Y) == Z", "X == (Y < Z)", "X ++ Y -- Z", "(X ++ Y) -- Z", "X + Y - Z", "X + (Y - Z)", "X + Y * Z", "(X + Y) * Z",
    "X * Y div Z", "X * (Y div Z)", "X ++ Y + Z", "(X ++ Y) + Z", "X + (Y = Z)", "(X = Y) + Z", "X andalso (catch Y)", "X = (catch Y)",
    "X ! (catch Y)", "catch X", "catch catch X", "catch X = Y", "{catch X, Y = Z}", "[catch X | catch Y]", "#{catch X => Y = Z}",
    "f(catch X, Y = Z)", "f()", "'end'(X)", "self()", "a:f(X)", "X:Y()", "(f(X)):(1)()", "(a:b()):c()", "X(Y)", "(a)(Y)", "(f(X))(Y)",
    "({})(1)", "fun () -> a end", "fun (X, Y) when X, Y; Z -> a, b; (_, _) -> c end", "fun X() -> a end",
    "fun X(Y) when Y -> a; X(_) -> X end", "fun f/1", "fun 'end':'Big'/9", "(fun f/1)(X)", "fun f/1#{a => b}", "begin X, Y end",
    "case X of a when X; Y, Z -> b; _ -> c end", "case catch X of _ -> catch Y, Z end", "if X, Y; Z -> a; true -> b end",
    "receive X -> a end", "receive X when Y -> a; Z -> b after X = Y -> c, a end", "receive after X -> a end",
    "try a, b of X -> a; Y -> b catch throw:X -> b; error:Y = Z when Y -> c; _:_ -> a after a, b end", "try a after b end",
    "try a catch X:Y -> b end", "try a of _ -> b after c end", "[X || X <- Y, Z, {a, _} <- Y]", "[X = Y || X = Y <- Z, X = Y]",
    "[catch X || catch Y, Z <- catch X]", "{X, _} = Y", "#{a := X, -1 := _, Y := b} = Z", "-3 = X", "_ = X", "{X = {_}, Y = Z = _} = X",
    "[X, _ | Y] = Z", "X =:= Y", "X =/= Y", "X rem Y band Z", "X bsl (Y bsr Z)", "X or Y xor Z", "begin X end + case X of _ -> a end",
)
# What is printed otherwise than it was written.
OTHER = {
    "\"ab\"": "[97, 98]", "\"ab\" ++ X": "[97, 98] ++ X", "\"ab\" ++ X = Y": "[97, 98 | X] = Y", "$a": "97", "16#ff": "255", "'ok'": "ok",
    "((X))": "X", "(X + Y) + Z": "X + Y + Z", "X = (Y = Z)": "X = Y = Z", "[X | [Y | [Z]]]": "[X, Y, Z]", "[X | [Y | Z]]": "[X, Y | Z]",
    "(a):(X)(1)": "a:X(1)", "(X)(1)": "X(1)", "f((X = Y), (catch Z))": "f(X = Y, catch Z)", "try a catch X -> b end":
    "try a catch throw:X -> b end", "<<\"ab\">>": "<<97, 98>>", "if (X) -> (Y) end": "if X -> Y end", "- 3": "-3", "X#{(a) => (b)}": "X#{a => b}",
    "X  ==Y": "X == Y", "fun()->a end": "fun () -> a end", "fun X ( ) ->a end": "fun X() -> a end", "{ a,b }": "{a, b}", "[]": "[]",
    "-(X#{a => b})": "-X#{a => b}", "catch (X)": "catch X", "(not X) == Y": "not X == Y", "#{(a) := (X = Y)} = Z": "#{a := X = Y} = Z",
}
MODULE = """-module('Mod').
-export([f/2, g/0]).

f(X, {Y = _, Z}) when X, Y; Z ->
    Q = X + Y,
    {Q, Z};
f(_, -1) ->
    catch case 1 of _ -> 2 end.

g() ->
    [].

'end'([X | _]) ->
    fun X(1) -> 2; X(_) -> 3 end.
"""


class Printing(unittest.TestCase):
    def test_just_the_one_text(self):
        for text in SAME:
            self.assertEqual(text, show_expression(read_expression(text)))
        for text, shown in OTHER.items():
            self.assertEqual(shown, show_expression(read_expression(text)))

    def test_all_forms_are_read_back(self):
        for form in FORMS.values():
            if form is not None:
                self.assertEqual(form, read_expression(show_expression(form)))

    def test_patterns(self):
        for text in ("-3", "7", "a", "'end'", "X", "_", "<<1, 2>>", "[]", "{X, _}", "[X, Y | _]", "[X]", "#{}", "#{a := X, -1 := Y, Z := _}",
                     "X = Y", "X = Y = Z", "(X = Y) = Z", "{X = Y}", "[X = Y | X = _]", "#{a := X = Y}"):
            form = read_expression("fun (" + text + ") -> a end")[1][0][0][0]
            self.assertEqual(text, show_pattern(form))

    def test_modules(self):
        one = Module(MODULE)
        self.assertEqual(MODULE, show_module(one))
        other = Module(" -module ( 'Mod' ) . -export([g/0]). -export([]). -export([f/2])." + MODULE.split("]).", 1)[1].replace("\n", " "))
        self.assertEqual(MODULE, show_module(other))
        self.assertEqual("-module(m).\n", show_module(Module("-module(m). -export([]).")))
        self.assertEqual("-module(m).\n\nf() ->\n    1.\n", show_module(Module("-module(m). f()->1.")))

    def test_forms_by_random_are_read_back(self):
        chance = random.Random(7)
        for _ in range(600):
            form = expression(chance, chance.randint(1, 4))
            shown = show_expression(form)
            self.assertEqual(form, read_expression(shown), shown)
            one = pattern(chance, 4)
            shown = show_pattern(one)
            self.assertEqual(one, read_expression("fun (" + shown + ") -> 1 end")[1][0][0][0], shown)
            text = "-module(m).\n\nf(" + shown + ") ->\n    " + show_expression(form) + ".\n"
            try:
                self.assertEqual(text, show_module(Module(text)))
            except BadForm as error:
                self.fail((error.value, text))

    def test_no_round_signs_are_printed_for_nothing(self):
        chance = random.Random(8)
        for _ in range(400):
            form = expression(chance, chance.randint(1, 4))
            shown = show_expression(form)
            for begin, end in pairs_of_round_signs(shown):
                less = shown[:begin] + " " + shown[begin + 1:end] + " " + shown[end + 1:]
                self.assertNotEqual(form, read(less), shown)


def read(text):
    try:
        return read_expression(text)
    except (BadForm, BadText):
        return None


def pairs_of_round_signs(text):
    """Where round signs stand that are no argument lists and no heads."""
    opened, pairs = [], []
    for at, sign in enumerate(text):
        if sign == "(":
            opened.append(at)
        elif sign == ")":
            begin = opened.pop()
            ahead = text[:begin]
            called = ahead and (ahead[-1].isalnum() or ahead[-1] in "_')")
            if not called and not ahead.endswith(("fun ", "; ")):
                pairs.append((begin, at))
    return pairs


if __name__ == "__main__":
    unittest.main()
