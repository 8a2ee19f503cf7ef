"""Section 8: patterns held against terms, and guards."""

import unittest

from arrivalmill.errors import BadGuard, BadNames, BadPattern, BadTerm
from arrivalmill.plain import held, lets
from arrivalmill.reading import Module, read_expression
from arrivalmill.termtext import read_term
from tests.values import NO_TERMS

MODULE = Module("-module(m).")
# A pattern, a term, names ahead; the names behind, or no if it does not fit.
FITS = """
1 ; 1 ; ; =
-1 ; -1 ; ; =
1 ; 2 ; ; no
1 ; a ; ; no
a ; a ; ; =
a ; b ; ; no
'end' ; 'end' ; ; =
_ ; {x,[]} ; ; =
X ; {x,[]} ; ; X {x,[]}
X ; 1 ; X 1 ; X 1
X ; 1 ; X 2 ; no
X ; 1 ; A 2, Z 3 ; A 2, X 1, Z 3
_X ; 1 ; ; _X 1
<<1,2>> ; <<1,2>> ; ; =
<<0,255>> ; <<0,255>> ; ; =
<<1,2>> ; <<1>> ; ; no
<<>> ; <<>> ; ; =
<<1>> ; [1] ; ; no
[] ; [] ; ; =
[] ; [1] ; ; no
[] ; {} ; ; no
{} ; {} ; ; =
{} ; [] ; ; no
{} ; {1} ; ; no
{X, Y} ; {1,2} ; ; X 1, Y 2
{X, X} ; {1,1} ; ; X 1
{X, X} ; {1,2} ; ; no
{X, {X}} ; {1,{1}} ; ; X 1
{X} ; {1,2} ; ; no
{X} ; [1] ; ; no
{X, Y} ; {1,2} ; Y 3 ; no
[X | Y] ; [1,2] ; ; X 1, Y [2]
[X | Y] ; [1|2] ; ; X 1, Y 2
[X | Y] ; [1,2|3] ; ; X 1, Y [2|3]
[X | Y] ; [1] ; ; X 1, Y []
[X | Y] ; [] ; ; no
[X | Y] ; {1,2} ; ; no
[X, Y] ; [1,2] ; ; X 1, Y 2
[X, Y] ; [1,2|3] ; ; no
[X, Y] ; [1,2,3] ; ; no
[X, Y] ; [1] ; ; no
[X, Y] ; [1|2] ; ; no
[X, Y | Z] ; [1|2] ; ; no
[X, Y | Z] ; [1,2|3] ; ; X 1, Y 2, Z 3
[X, _ | _] ; [1,2,3] ; ; X 1
[1 | {X}] ; [1|{2}] ; ; X 2
[X | X] ; [[1],1] ; ; X [1]
"ab" ; [97,98] ; ; =
"ab" ++ X ; [97,98,99] ; ; X [99]
"ab" ++ X ; [97,98|c] ; ; X c
"ab" ++ X ; [97] ; ; no
#{} ; #{} ; ; =
#{} ; #{1=>2} ; ; =
#{} ; [] ; ; no
#{a := X} ; #{a=>1,b=>2} ; ; X 1
#{a := X} ; #{b=>2} ; ; no
#{a := 1} ; #{a=>2} ; ; no
#{-1 := X, a := X} ; #{-1=>2,a=>2} ; ; X 2
#{-1 := X, a := X} ; #{-1=>2,a=>3} ; ; no
#{K := X} ; #{a=>1} ; K a ; K a, X 1
#{K := X} ; #{{a,[]}=>1} ; K {a,[]} ; K {a,[]}, X 1
#{K := X} ; #{a=>1} ; K b ; no
#{K := X} ; #{a=>1} ; ; no
{K, #{K := X}} ; {a,#{a=>1}} ; ; no
{K, #{K := X}} ; {a,#{a=>1}} ; K a ; K a, X 1
#{K := K} ; #{a=>a} ; K a ; K a
#{K := X, a := K} ; #{a=>1} ; ; no
#{a := X, a := Y} ; #{a=>1} ; ; X 1, Y 1
X = {Y} ; {1} ; ; X {1}, Y 1
X = Y = Z ; 1 ; ; X 1, Y 1, Z 1
{X, _} = {_, X} ; {1,1} ; ; X 1
{X, _} = {_, X} ; {1,2} ; ; no
{X = 1, Y} ; {1,b} ; ; X 1, Y b
{X = 1, Y} ; {2,b} ; ; no
1 = X ; 2 ; ; no
"""

NO_PATTERNS = (
    1, None, True, "X", (), [], {}, MODULE, ("number",), ("number", True), ("number", "1"), ("number", 1, 2), ("number", None), ["number", 1],
    ("atom", ""), ("atom", 1), ("atom", "a b"), ("atom", "abcdefghijklmnopq"), ("atom",), ("name", "x"), ("name", "_"), ("name", ""),
    ("name", 1), ("name", "X", "Y"), ("name", "Abcdefghijklmnopq"), ("any", 1), ("any", "_"), ("bytes", 1), ("bytes", [1]), ("bytes", (256,)),
    ("bytes", (-1,)), ("bytes", (True,)), ("bytes",), ("nil", ()), ("tuple", [("any",)]), ("tuple", ("any",)), ("tuple", (1,)), ("tuple",),
    ("cons", ("any",)), ("cons", ("any",), 1), ("cons", 1, ("any",)), ("cons", ("any",), ("any",), ("any",)), ("map", (("any",), ("any",))),
    ("map", ((("any",), ("any",)),)), ("map", ((("atom", "a"),),)), ("map", ((("tuple", ()), ("any",)),)), ("map", ((("atom", "a"), 1),)),
    ("map", [(("atom", "a"), ("any",))]), ("map", ((("number", True), ("any",)),)), ("map", ([("atom", "a"), ("any",)],)), ("map",),
    ("alias", ("any",)), ("alias", ("any",), None), ("alias", None, ("any",)), ("op", "-", (("number", 1),)), ("match", ("any",), ("any",)), ("call", "f", ()),
    ("tuple", (("op", "+", (("number", 1), ("number", 2))),)), ("word",), (("any",),), ("map", ((("bytes", (1,)), ("any",)),)),
)
NO_NAMES = (
    1, None, True, "", "X", [], [("X", 1)], {"X": 1}, ("X", 1), (("X",),), (("X", 1, 2),), (["X", 1],), (("x", 1),), (("_", 1),), (("", 1),),
    ((1, 2),), (("X", True),), (("X", None),), (("X", [1]),), (("Y", 1), ("X", 2)), (("X", 1), ("X", 1)), (("X", 1), ("X", 2)), ((None, 1),),
    (("X Y", 1),), MODULE, (MODULE,), (("X", 1), None),
)


def pattern(text):
    return read_expression("fun (" + text + ") -> a end")[1][0][0][0]


def guard(text):
    return read_expression("if " + text + " -> a end")[1][0][1]


def names(text):
    return tuple((part.split(" ", 1)[0], read_term(part.split(" ", 1)[1])) for part in text.split(", ") if part)


class Case(unittest.TestCase):
    def raises(self, kind, value, call, *arguments):
        with self.assertRaises(kind) as caught:
            call(*arguments)
        self.assertIs(value, caught.exception.value)


class Held(Case):
    def test_each_pattern(self):
        for row in FITS.strip().split("\n"):
            parts = [part.strip() for part in row.split(" ;")]
            want = None if parts[3] == "no" else () if parts[3] == "=" else names(parts[3])
            self.assertEqual(want, held(pattern(parts[0]), read_term(parts[1]), names(parts[2])), row)

    def test_long_lists(self):
        long = ("list", *range(5000))
        self.assertEqual((("X", 0), ("Y", ("list", *range(1, 5000)))), held(pattern("[X | Y]"), long, ()))
        deep = pattern("[" + ", ".join(["_"] * 99) + ", X | Y]")
        self.assertEqual((("X", 99), ("Y", ("list", *range(100, 5000)))), held(deep, long, ()))

    def test_errors_in_their_sequence(self):
        for value in NO_PATTERNS:
            self.raises(BadPattern, value, held, value, True, None)
        for value in NO_TERMS:
            self.raises(BadTerm, value, held, ("any",), value, None)
        for value in NO_NAMES:
            self.raises(BadNames, value, held, ("any",), 1, value)


class Lets(Case):
    def lets(self, text, ahead=""):
        return lets(guard(text), names(ahead))

    def test_alternatives_and_tests(self):
        self.assertIs(True, lets((), ()))
        for text in ("true", "true, true", "false; true", "1; a; true", "hd([]); true", "X; true", "false, true; true", "1 == 1", "not false",
                     "length([1, 2]) == 2, element(2, {a, true})", "true andalso true", "false orelse true", "1 < a", "{1, 2} == {1, 2}",
                     "#{a => 1, a => 2} == #{a => 2}", "map_get(a, #{a => true})", "is_function(a, 0), false; true",
                     "[1 | 2] < [1]", "\"ab\" == [97, 98]", "<<0, 255>> > []", "hd([true | b])", "self() == self()", "is_pid(self())"):
            self.assertIs(True, self.lets(text), text)
        for text in ("false", "1", "a", "true, false", "false; false", "true, 1", "X", "hd([])", "1 + a", "1 + a == 2", "not 1", "1 andalso true",
                     "1 orelse true", "true andalso 1", "false orelse 1", "length([1 | 2]) > 0", "{true}", "[true]", "map_get(b, #{a => true})",
                     "hd([]), true", "true, hd([])", "X == X", "1 bsl 2000 > 0", "false andalso X", "element(3, {true})", "is_map_key(a, b)",
                     "is_function(a, b)", "1 div 0 == 0", "true and 1", "min(X, 1) == 1"):
            self.assertIs(False, self.lets(text), text)

    def test_andalso_and_orelse_do_not_work_out_what_they_need_not(self):
        self.assertTrue(self.lets("true orelse hd([])"))
        self.assertTrue(self.lets("not (false andalso hd([]))"))
        self.assertFalse(self.lets("true andalso hd([])"))
        self.assertFalse(self.lets("hd([]) orelse true"))

    def test_names(self):
        self.assertTrue(self.lets("X > Y, Y", "X {}, Y true"))
        self.assertFalse(self.lets("X > Y, Z", "X {}, Y true"))
        self.assertTrue(self.lets("Z; Y", "Y true"))
        self.assertTrue(self.lets("{X, [X | Y], #{X => Y}} == {1, [1, 2], #{1 => [2]}}", "X 1, Y [2]"))

    def test_the_first_process(self):
        self.assertTrue(self.lets("self() == X", "X <>"))
        self.assertFalse(self.lets("self() == X", "X <1>"))

    def test_errors_in_their_sequence(self):
        one = ("atom", "true")
        call = ("call", "f", ())
        for value in (
                1, None, True, "", [], {}, MODULE, (one,), ((),), ((one,), ()), ([one],), [(one,)], ((1,),), ((call,),), ((one, call),),
                ((("number", -1),),), ((("number", True),),), ((("any",),),), ((("alias", one, one),),), ((("op", "++", (one, one)),),),
                ((("op", "--", (one, one)),),), ((("op", "+", (one,)),),), ((("op", "not", (one, one)),),), ((("op", "andalso", (one, one)),),),
                ((("op", "!", (one, one)),),), ((("op", "+", [one, one]),),), ((("op", "+", one),),), ((("op", 1, (one, one)),),), ((("op", ["+"], (one, one)),),), ((("built", ["hd"], (one,)),),),
                ((("built", "hd", ()),),), ((("built", "setelement", (one, one, one)),),), ((("built", "make_ref", ()),),),
                ((("built", "foo", ()),),), ((("built", "link", (one,)),),), ((("built", 1, ()),),), ((("call", "hd", (one,)),),),
                ((("tuple", (call,)),),), ((("cons", one, call),),), ((("cons", call, one),),), ((("map", ((one,),)),),),
                ((("map", ((one, call),)),),), ((("map", (one,)),),), ((("both", one),),), ((("both", one, call),),), ((("either", call, one),),),
                ((("put", one, (("=>", one, one),)),),), ((("match", ("any",), one),),), ((("name", "x"),),), ((("local", "f", 1),),), (one, one)):
            self.raises(BadGuard, value, lets, value, None)
        for value in NO_NAMES:
            self.raises(BadNames, value, lets, (), value)


if __name__ == "__main__":
    unittest.main()
