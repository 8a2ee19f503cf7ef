"""Section 7: the looker."""

import unittest

from arrivalmill.looker import is_sound, look_over
from arrivalmill.reading import Module

# The function (of the name f), what is told of it: word and name.
ROWS = (
    ("f() -> 1.", ""), ("f(X) -> X.", ""), ("f(X) -> 1.", "unused X"), ("f(_X) -> 1.", ""), ("f(_) -> 1.", ""),
    ("f() -> X.", "unbound X"), ("f(X) -> {X, Y, Y}.", "unbound Y"), ("f() -> _X.", "unbound _X"), ("f(X) -> _Y = X.", ""),
    # used: in an expression, a test, a key, a pattern where it is bound ahead or for the second time
    ("f(X) when X -> 1.", ""), ("f(X, X) -> 1.", ""), ("f({X, [X]}) -> 1.", ""), ("f(X) -> X = 1.", ""), ("f(X) -> {X} = {1}, 2.", ""),
    ("f(K, M) -> #{K := 1} = M.", ""), ("f(X) -> case 1 of X -> 2 end.", ""), ("f() -> X = 1.", "unused X"), ("f() -> X = X.", "unbound X, unused X"),
    ("f() -> {X, X} = 1.", ""), ("f() -> X = 1, X.", ""), ("f() -> X = 1, X = 2.", ""),
    # keys see what is bound ahead of all of the pattern
    ("f(K, #{K := V}) -> V.", "unbound K, unused K"), ("f(M) -> {K, #{K := V}} = M, V.", "unbound K, unused K"),
    ("f(M) -> {K, #{K := V}} = M, {K, V}.", "unbound K"), ("f(M) -> fun (K, #{K := V}) -> V + K end.", "unbound K, unused M"),
    ("f(K) -> fun (#{K := V}) -> V end.", ""), ("f(M) -> case M of #{K := V} -> V end.", "unbound K"),
    ("f(L) -> [V || #{K := V} <- L].", "unbound K"), ("f(L) -> [V || K <- L, #{K := V} <- L].", ""),
    # parts
    ("f() -> {X = 1, X}.", "unbound X, unused X"), ("f() -> {X = 1, Y = 2}, X + Y.", ""), ("f() -> {X = 1, X = 2}, 3.", "unused X"),
    ("f() -> {X = 1, X = 2}, X.", "unsafe X"), ("f() -> {X = 1, X = 2}, X = 3.", "unsafe X"), ("f() -> g(X = 1, X).", "unbound X, undefined g/2, unused X"),
    ("f() -> [X = 1 | X].", "unbound X, unused X"), ("f() -> #{X = 1 => X}.", "unbound X, unused X"), ("f(M) -> (X = M)#{a => X}.", "unbound X, unused X"),
    ("f() -> (X = self()) ! X.", "unbound X, unused X"), ("f() -> (M = a):g(M).", "unbound M, unused M"), ("f(F) -> F(X = 1), X.", ""),
    # case, if, receive
    ("f(X) -> case X of 1 -> Y = 1; _ -> Y = 2 end, Y.", ""), ("f(X) -> case X of 1 -> Y = 1; _ -> 2 end, Y.", "unsafe Y"),
    ("f(X) -> case X of 1 -> Y = 1; _ -> 2 end.", "unused Y"), ("f(X) -> case X of 1 -> Y = 1; _ -> 2 end, Y = 3, Y.", "unsafe Y"),
    ("f(X) -> case X of {Y} -> Y; [Y] -> 1 end.", "unused Y"), ("f(X) -> case X of {Y} -> 1; [Y] -> 1 end, Y.", ""),
    ("f(X) -> case Y = X of _ -> Y end.", ""), ("f(X) -> case X of Y when Y > Z -> 1 end.", "unbound Z"),
    ("f(X) -> if X -> Y = 1; true -> Z = 2 end, {Y, Z}.", "unsafe Y, unsafe Z"), ("f(X) -> if X -> Y = 1 end, Y.", ""),
    ("f() -> receive X -> X end.", ""), ("f() -> receive {X, Y} -> X after Y -> 1 end.", "unbound Y, unused Y"),
    ("f() -> receive X -> T after T = 5 -> X = T end, X.", "unbound T"), ("f() -> receive X -> T = 1 after T = 5 -> X = T end, {X, T}.", ""),
    ("f() -> receive X -> 1 after T = 5 -> T end.", "unused X"), ("f() -> receive X -> 1 after T = 5 -> 2 end, T.", "unsafe T, unused X"),
    # try
    ("f() -> try X = 1 of Y -> {X, Y} catch Z -> Z after 1 end.", ""), ("f() -> try X = 1 of _ -> 2 catch _ -> X after X end.", "unbound X, unused X"),
    ("f() -> try X = 1 after 2 end, X.", "unbound X, unused X"), ("f() -> try 1 catch C:R -> {C, R} end, C.", "unbound C"),
    ("f() -> try 1 catch C:R when C -> 1 end.", "unused R"), ("f() -> try 1 after X = 1, Y = X end, Y.", "unbound Y, unused Y"),
    ("f() -> try X = 1, X after 1 end, X = 2, X.", ""), ("f() -> try 1 of X -> Y = X catch _ -> Y end.", "unbound Y, unused Y"),
    ("f(C) -> try 1 catch C:C -> 1 end.", ""),
    # funs
    ("f(X) -> fun () -> X end.", ""), ("f(X) -> fun (X) -> X end.", "hidden X, unused X"), ("f(X) -> fun (X) -> 1 end, X.", "hidden X, unused X"),
    ("f() -> fun (X) -> Y = X, Y end.", ""), ("f() -> fun (X) -> Y = X end, Y.", "unbound Y, unused Y"), ("f() -> fun (X, {X}) -> 1 end.", ""),
    ("f() -> fun F(X) -> F(X) end.", ""), ("f() -> fun F(_) -> 1 end.", ""), ("f() -> fun F(_) -> 1 end, F.", "unbound F"),
    ("f(F) -> fun F(_) -> F end.", "hidden F, unused F"), ("f(F) -> fun F(_) -> 1 end, F.", "hidden F"), ("f() -> fun F(F) -> F end.", "hidden F"),
    ("f() -> catch X = 1, fun (X) -> X end.", "hidden X, unused X"), ("f() -> catch X = 1, fun () -> X end.", "unsafe X"),
    ("f() -> catch X = 1, fun X() -> X end.", "hidden X, unused X"), ("f(X) -> fun (X) when X -> 1; (_) -> X end.", "hidden X"),
    ("f(X) -> fun (_) -> fun (X) -> X end end.", "hidden X, unused X"), ("f() -> fun F(_) -> 1 end, X = 1.", "unused X"),
    ("f(L) -> fun F(Y) -> F end, X = 1, X.", "unused L, unused Y"),
    # ways
    ("f(L) -> [X || X <- L].", ""), ("f(L) -> [1 || X <- L].", "unused X"), ("f(L) -> [X || X <- L], X.", "unbound X"),
    ("f(X) -> [X || X <- X].", "hidden X"), ("f(L) -> [X || X <- L, X <- L].", "hidden X, unused X"), ("f(L) -> [X || X <- L, X, X <- L].", "hidden X"),
    ("f(L) -> [Y || X <- Y = L].", "unbound Y, unused X, unused Y"), ("f(L) -> [Y || _ <- L, Y = true].", "unbound Y, unused Y"),
    ("f(L) -> [{X, Y} || X <- L, Y <- X, X > Y].", ""), ("f(L) -> [X || X <- L, Y = X, Y].", "unbound Y, unused Y"),
    ("f(L) -> catch X = 1, [X || X <- L].", "hidden X, unused X"), ("f(L) -> [X || {X, X} <- L].", ""), ("f(L) -> [1 || {X, X} <- L].", ""),
    # right sides, catch
    ("f(X) -> (Y = X) andalso Y.", ""), ("f(X) -> X andalso (Y = 1), Y.", "unsafe Y"), ("f(X) -> X orelse (Y = 1).", "unused Y"),
    ("f() -> catch X = 1, X.", "unsafe X"), ("f() -> catch X = 1, X = 2.", "unsafe X"), ("f() -> catch begin X = 1, X end.", ""),
    ("f(M) -> catch X = 1, #{X := 1} = M.", "unsafe X"), ("f(M) -> catch X = 1, if X -> M end.", "unsafe X"),
    # calls
    ("f() -> f().", ""), ("f() -> f(1).", "undefined f/1"), ("f() -> fun f/0.", ""), ("f() -> fun g/3.", "undefined g/3"),
    ("f() -> fun m:g/3.", ""), ("f() -> m:g().", ""), ("f() -> 'end'(), g(1, 2), g(1, 2).", "undefined end/0, undefined g/2"),
    ("f() -> self(), spawn(fun f/0).", ""), ("f(X) -> X:g(), X(1).", ""),
)


class Looker(unittest.TestCase):
    def test_rows_of_one_function(self):
        for text, told in ROWS:
            one = Module("-module(m). " + text)
            (name, many), = one.functions
            rows = tuple((name, many, *row.split()) for row in told.split(", ") if row)
            self.assertEqual(rows, look_over(one), text)
            self.assertIs(not any(row[2] in ("unbound", "unsafe", "undefined") for row in rows), is_sound(one), text)

    def test_rows_of_several_functions(self):
        one = Module("-module(m). g(X) -> f(X, Y). f(Y, X) -> h(), X. f() -> 1; f() -> X.")
        self.assertEqual((("f", 0, "unbound", "X"), ("f", 2, "undefined", "h/0"), ("f", 2, "unused", "Y"), ("g", 1, "unbound", "Y")),
                         look_over(one))
        self.assertFalse(is_sound(one))
        self.assertEqual((), look_over(Module("-module(m).")))
        self.assertTrue(is_sound(Module("-module(m).")))

    def test_clauses_of_a_function_see_nothing_of_each_other(self):
        one = Module("-module(m). f({X}) -> X; f(Y) -> X.")
        self.assertEqual((("f", 1, "unbound", "X"), ("f", 1, "unused", "Y")), look_over(one))

    def test_each_row_stands_once(self):
        one = Module("-module(m). f() -> X, X, fun () -> X end. f(Z) -> fun (Z) -> 1 end, fun (Z) -> 2 end.")
        self.assertEqual((("f", 0, "unbound", "X"), ("f", 1, "hidden", "Z"), ("f", 1, "unused", "Z")), look_over(one))


if __name__ == "__main__":
    unittest.main()
