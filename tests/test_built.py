"""Section 8: operators and built-in functions."""

import itertools
import unittest

from arrivalmill.built import built
from arrivalmill.errors import BadBuilt, BadTerms
from arrivalmill.reading import Module
from arrivalmill.termtext import read_term, term_text
from tests.values import ASCENDING, NIL, NO_TERMS

PID, REF, OWN = ("pid", ()), ("ref", (), 1), ("fun", "m", "f", 1, 0, ())
ONE_OF_EACH = (5, "a", REF, OWN, PID, ("tuple", 1), ("map", (1, 2)), ("list", 1), ("odd", 1, 2), ("bytes", 1))
BINARY = ("+ - * div rem band bor bxor bsl bsr and or xor == =:= /= =/= < =< > >= ++ --").split()
FUNCTIONS = {
    "is_atom": 1, "is_boolean": 1, "is_integer": 1, "is_number": 1, "is_list": 1, "is_tuple": 1, "is_map": 1, "is_binary": 1,
    "is_pid": 1, "is_reference": 1, "abs": 1, "min": 2, "max": 2, "hd": 1, "tl": 1, "length": 1, "tuple_size": 1, "byte_size": 1,
    "element": 2, "setelement": 3, "map_size": 1, "map_to_list": 1, "map_remove": 2, "map_get": 2, "is_map_key": 2,
    "tuple_to_list": 1, "list_to_tuple": 1, "integer_to_list": 1, "list_to_integer": 1, "atom_to_list": 1, "list_to_atom": 1,
    "binary_to_list": 1, "list_to_binary": 1, "throw": 1, "error": 1, "exit": 1,
}
# What is worked out, its terms as texts, and what it comes to, as a text; or what it raises, behind a mark.
ROWS = """
+ 2 3 = 5
+ -2 -3 = -5
- 2 3 = -1
- 7 = -7
- -7 = 7
* -4 6 = -24
* 0 -6 = 0
+ a 1 ! badarith
+ 1 [] ! badarith
- a ! badarith
- 1 a ! badarith
* {} {} ! badarith
div 7 2 = 3
div -7 2 = -3
div 7 -2 = -3
div -7 -2 = 3
div 6 -3 = -2
div 1 2 = 0
div -1 2 = 0
div 1 0 ! badarith
div a 1 ! badarith
div 1 a ! badarith
rem 7 2 = 1
rem -7 2 = -1
rem 7 -2 = 1
rem -7 -2 = -1
rem 6 -3 = 0
rem 1 0 ! badarith
rem 0 5 = 0
rem a 1 ! badarith
band 12 10 = 8
band -1 10 = 10
band -4 -6 = -8
band a 1 ! badarith
bor 12 10 = 14
bor -4 1 = -3
bor 1 a ! badarith
bxor 12 10 = 6
bxor -1 5 = -6
bxor a b ! badarith
bnot 0 = -1
bnot 5 = -6
bnot -6 = 5
bnot a ! badarith
bsl 1 4 = 16
bsl -1 4 = -16
bsl 16 -2 = 4
bsl -5 -1 = -3
bsl -1 -1000 = -1
bsl 1 -1000 = 0
bsl 1 1001 ! system_limit
bsl 0 1001 ! system_limit
bsl 1 -1001 ! system_limit
bsl a 2000 ! badarith
bsl 1 a ! badarith
bsr 16 2 = 4
bsr -5 1 = -3
bsr 1 -4 = 16
bsr -7 1000 = -1
bsr 7 1000 = 0
bsr 1 1001 ! system_limit
bsr 1 -1001 ! system_limit
bsr [] 1 ! badarith
and true true = true
and true false = false
and false a ! badarg
and 1 true ! badarg
or false true = true
or false false = false
or true a ! badarg
xor true false = true
xor true true = false
xor a true ! badarg
not true = false
not false = true
not a ! badarg
not 1 ! badarg
++ [] [] = []
++ [1] [2,3] = [1,2,3]
++ [1,2] a = [1,2|a]
++ [] a = a
++ [] 7 = 7
++ [1] [2|3] = [1,2|3]
++ [1] {} = [1|{}]
++ [1|2] [] ! badarg
++ a [] ! badarg
++ {} [] ! badarg
-- [1,2,1,3] [1] = [2,1,3]
-- [1,2,1,3] [1,1,1] = [2,3]
-- [1,2,3] [3,4,2] = [1]
-- [] [1] = []
-- [1] [] = [1]
-- [{a},[b]] [[b]] = [{a}]
-- [1|2] [] ! badarg
-- [] [1|2] ! badarg
-- a [] ! badarg
-- [] a ! badarg
is_boolean true = true
is_boolean false = true
is_boolean a = false
is_boolean 1 = false
is_function fun m:f/2 2 = true
is_function fun m:f/2 3 = false
is_function a 0 = false
is_function a -1 ! badarg
is_function fun m:f/2 a ! badarg
is_function fun m:f/2 -2 ! badarg
is_function fun m:0/1@1 1 = true
is_function fun m:0/1@1 10 = false
abs -3 = 3
abs 3 = 3
abs a ! badarg
min 1 a = 1
min a 1 = 1
min [1|2] [1] = [1|2]
max 1 a = a
max {} <<>> = <<>>
max [] [1|2] = [1|2]
hd [1,2] = 1
hd [1|2] = 1
hd [] ! badarg
hd {1} ! badarg
tl [1,2] = [2]
tl [1] = []
tl [1|2] = 2
tl [1,2|3] = [2|3]
tl [] ! badarg
tl a ! badarg
length [] = 0
length [1,[2,3]] = 2
length [1|2] ! badarg
length {} ! badarg
tuple_size {} = 0
tuple_size {a,b} = 2
tuple_size [] ! badarg
byte_size <<>> = 0
byte_size <<1,2>> = 2
byte_size [] ! badarg
element 1 {a,b} = a
element 2 {a,b} = b
element 0 {a,b} ! badarg
element 3 {a,b} ! badarg
element -1 {a,b} ! badarg
element a {a} ! badarg
element 1 [a] ! badarg
element 1 {} ! badarg
setelement 1 {a,b} c = {c,b}
setelement 2 {a,b} c = {a,c}
setelement 0 {a,b} c ! badarg
setelement 3 {a,b} c ! badarg
setelement 1 [a] c ! badarg
setelement a {a} c ! badarg
map_size #{} = 0
map_size #{1=>2,a=>b} = 2
map_size [] ! {badmap,[]}
map_to_list #{} = []
map_to_list #{1=>2,a=>b,[]=>c} = [{1,2},{a,b},{[],c}]
map_to_list a ! {badmap,a}
map_remove a #{a=>b,c=>d} = #{c=>d}
map_remove b #{a=>b} = #{a=>b}
map_remove b 1 ! {badmap,1}
map_get a #{a=>b} = b
map_get b #{a=>b} ! {badkey,b}
map_get b {} ! {badmap,{}}
is_map_key a #{a=>b} = true
is_map_key b #{a=>b} = false
is_map_key b [] ! {badmap,[]}
tuple_to_list {} = []
tuple_to_list {a,[b]} = [a,[b]]
tuple_to_list [] ! badarg
list_to_tuple [] = {}
list_to_tuple [a,b] = {a,b}
list_to_tuple [a|b] ! badarg
list_to_tuple {} ! badarg
integer_to_list 0 = [48]
integer_to_list -12 = [45,49,50]
integer_to_list a ! badarg
list_to_integer [49,50] = 12
list_to_integer [45,49] = -1
list_to_integer [43,48,55] = 7
list_to_integer [45,48] = 0
list_to_integer [] ! badarg
list_to_integer [45] ! badarg
list_to_integer [43] ! badarg
list_to_integer [43,45,49] ! badarg
list_to_integer [49,43] ! badarg
list_to_integer [97] ! badarg
list_to_integer [32,49] ! badarg
list_to_integer [a] ! badarg
list_to_integer [49|50] ! badarg
list_to_integer 49 ! badarg
atom_to_list ok = [111,107]
atom_to_list 'EXIT' = [69,88,73,84]
atom_to_list 1 ! badarg
list_to_atom [111,107] = ok
list_to_atom [69,64,95,57] = 'E@_9'
list_to_atom [] ! badarg
list_to_atom [32] ! badarg
list_to_atom [-1] ! badarg
list_to_atom [a] ! badarg
list_to_atom [97|98] ! badarg
list_to_atom a ! badarg
list_to_atom [97,97,97,97,97,97,97,97,97,97,97,97,97,97,97,97] = aaaaaaaaaaaaaaaa
list_to_atom [97,97,97,97,97,97,97,97,97,97,97,97,97,97,97,97,97] ! badarg
binary_to_list <<>> = []
binary_to_list <<1,255>> = [1,255]
binary_to_list [] ! badarg
list_to_binary [] = <<>>
list_to_binary [0,255] = <<0,255>>
list_to_binary [1,<<2,3>>,[],[4,[<<>>,5]],<<6>>] = <<1,2,3,4,5,6>>
list_to_binary [256] ! badarg
list_to_binary [-1] ! badarg
list_to_binary [a] ! badarg
list_to_binary [1|2] ! badarg
list_to_binary [1,[2|3]] ! badarg
list_to_binary [1|<<2>>] ! badarg
list_to_binary <<1>> ! badarg
list_to_binary 1 ! badarg
list_to_binary [{}] ! badarg
"""


def parted(words):
    """The terms of a row: a function's text has a blank in it."""
    texts = []
    for word in words:
        if texts and texts[-1] == "fun":
            texts[-1] += " " + word
        else:
            texts.append(word)
    return tuple(read_term(text) for text in texts)


class Built(unittest.TestCase):
    def test_rows(self):
        for row in ROWS.strip().split("\n"):
            mark = " = " if " = " in row else " ! "
            left, _, right = row.partition(mark)
            word, *texts = left.split()
            want = ("value", read_term(right)) if mark == " = " else ("raise", "error", read_term(right))
            self.assertEqual(want, built(word, parted(texts)), row)

    def test_order(self):
        for (at, one), (by, other) in itertools.product(enumerate(ASCENDING), enumerate(ASCENDING)):
            for word, holds in (("==", at == by), ("=:=", at == by), ("/=", at != by), ("=/=", at != by), ("<", at < by), ("=<", at <= by),
                                (">", at > by), (">=", at >= by)):
                self.assertEqual(("value", "true" if holds else "false"), built(word, (one, other)))
            self.assertEqual(("value", ASCENDING[min(at, by)]), built("min", (one, other)))
            self.assertEqual(("value", ASCENDING[max(at, by)]), built("max", (one, other)))

    def test_kinds(self):
        for word, kinds in (("is_atom", "a"), ("is_integer", 5), ("is_number", 5), ("is_tuple", ("tuple", 1)), ("is_map", ("map", (1, 2))),
                            ("is_binary", ("bytes", 1)), ("is_pid", PID), ("is_reference", REF), ("is_function", OWN)):
            for one in ONE_OF_EACH:
                self.assertEqual(("value", "true" if one == kinds else "false"), built(word, (one,)), (word, one))
        for one in ONE_OF_EACH:
            self.assertEqual(("value", "true" if one[0] in ("list", "odd") else "false") if isinstance(one, tuple) else ("value", "false"),
                             built("is_list", (one,)))
        self.assertEqual(("value", "true"), built("is_list", (NIL,)))

    def test_classes(self):
        for word in ("throw", "error", "exit"):
            for one in ONE_OF_EACH:
                self.assertEqual(("raise", word, one), built(word, (one,)))

    def test_numbers_by_all_bits(self):
        for one, other in itertools.product(range(-9, 10), repeat=2):
            self.assertEqual(("value", one & other), built("band", (one, other)))
            self.assertEqual(("value", one | other), built("bor", (one, other)))
            self.assertEqual(("value", one ^ other), built("bxor", (one, other)))
            if other:
                quotient = built("div", (one, other))[1]
                rest = built("rem", (one, other))[1]
                self.assertEqual(one, quotient * other + rest)
                self.assertTrue(abs(rest) < abs(other) and (rest == 0 or (rest < 0) == (one < 0)))
            self.assertEqual(("value", one * 2 ** other if other >= 0 else one // 2 ** -other), built("bsl", (one, other)))
            self.assertEqual(built("bsl", (one, -other)), built("bsr", (one, other)))
        self.assertEqual(("value", 2 ** 1000), built("bsl", (1, 1000)))
        self.assertEqual(("value", 2 ** 1000), built("bsr", (1, -1000)))

    def test_numbers_as_signs_there_and_back(self):
        for number in (0, 1, -1, 99, -100, 10 ** 300, -10 ** 300):
            signs = built("integer_to_list", (number,))[1]
            self.assertEqual(("value", number), built("list_to_integer", (signs,)))
            self.assertEqual(str(number), "".join(chr(sign) for sign in signs[1:]))

    def test_what_is_no_word(self):
        for value in ("self", "make_ref", "apply", "link", "spawn", "send_after", "!", "=", "andalso", "orelse", "catch", "", "foo", "ADD",
                      "monotonic_time", "#", "=>", 1, None, True, (), ["+"], {"+": 1}, ("+",), Module("-module(m).")):
            with self.assertRaises(BadBuilt) as caught:
                built(value, None)
            self.assertIs(value, caught.exception.value)

    def test_how_many_terms(self):
        takes = {**FUNCTIONS, **{sign: 2 for sign in BINARY}, "not": 1, "bnot": 1}
        for word, many in takes.items():
            for number in range(5):
                if number == many or (word == "-" and number == 1):
                    built(word, (1,) * number)
                else:
                    self.bad_terms(word, (1,) * number)
        for number in (0, 3):
            self.bad_terms("is_function", (1,) * number)

    def test_what_are_no_terms(self):
        for word, many in (("+", 2), ("hd", 1), ("setelement", 3), ("is_atom", 1), ("==", 2)):
            for value in NO_TERMS:
                self.bad_terms(word, (1,) * (many - 1) + (value,))
            for value in ([1] * many, None, 1, "ab", {1: 2}, True):
                self.bad_terms(word, value)

    def bad_terms(self, word, value):
        with self.assertRaises(BadTerms) as caught:
            built(word, value)
        self.assertIs(value, caught.exception.value)

    def test_no_argument_is_changed(self):
        left, right = ("list", 1, 2, 1), ("list", 1)
        built("--", (left, right))
        self.assertEqual("[1,2,1]", term_text(left))
        self.assertEqual("[1]", term_text(right))


if __name__ == "__main__":
    unittest.main()
