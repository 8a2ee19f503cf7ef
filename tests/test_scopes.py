"""Section 6, what names hold."""

import unittest

from arrivalmill.reading import Module, read_expression
from arrivalmill.scopes import bound_behind, held_names

# The expression, the names bound ahead; those bound behind it, those unsafe behind it.
BEHIND = (
    ("1", "", "", ""), ("X", "X", "X", ""), ("X", "", "", ""), ("f(X)", "Y", "Y", ""),
    # patterns
    ("X = 1", "", "X", ""), ("X = 1", "X", "X", ""), ("{X, Y, X} = Z", "Z", "X Y Z", ""), ("[X, _ | Y] = Z", "", "X Y", ""),
    ("#{K := V, a := W} = Z", "K", "K V W", ""), ("#{K := V} = Z", "", "V", ""), ("(X = {Y}) = Z", "", "X Y", ""),
    ("X = Y = Z", "", "X Y", ""), ("_ = Z", "", "", ""), ("{_X, -1, <<1>>} = Z", "", "_X", ""),
    # of a match the right side comes first
    ("X = (X = 1)", "", "X", ""), ("{X, Y} = {X = 1, 2}", "", "X Y", ""), ("X = begin Y = 1, Z = 2 end", "", "X Y Z", ""),
    # parts of one expression
    ("{X = 1, Y = 2}", "", "X Y", ""), ("{X = 1, X = 2}", "", "", "X"), ("{X = 1, X}", "", "X", ""), ("[X = 1, X = 2 | Y = 3]", "", "Y", "X"),
    ("[X = 1, Y = 2 | X = 3]", "", "Y", "X"), ("(X = 1) + (Y = 2)", "", "X Y", ""), ("(X = 1) + (X = 2)", "", "", "X"),
    ("f(X = 1, X = 2, X = 3)", "", "", "X"), ("hd(X = 1)", "", "X", ""), ("min(X = 1, X = 2)", "", "", "X"),
    ("(X = a):(Y = b)(Z = c)", "", "X Y Z", ""), ("(X = a):(X = b)()", "", "", "X"), ("(X = a)(Y = b)", "", "X Y", ""),
    ("(X = a)(X = b)", "", "", "X"), ("#{X = 1 => Y = 2}", "", "X Y", ""), ("#{X = 1 => X = 2}", "", "", "X"),
    ("(X = 1)#{Y = 2 => Z = 3}", "", "X Y Z", ""), ("(X = 1)#{a := X = 3}", "", "", "X"), ("(X = 1) ! (Y = 2)", "", "X Y", ""),
    ("(X = 1) ! (X = 2)", "", "", "X"), ("-(X = 1)", "", "X", ""), ("{X = 1, X = 2}", "X", "X", ""),
    ("{begin X = 1, Y = 2 end, Y = 3}", "", "X", "Y"), ("{{X = 1}, {{X = 2}}}", "", "", "X"),
    # case, if, receive
    ("case X of {a, Y} -> Y; _ -> Z = 1, Z end", "X", "X", "Y Z"), ("case X = 1 of Y -> Z = Y end", "", "X Y Z", ""),
    ("case 1 of X -> Y = 1; Y -> X = 1 end", "", "X Y", ""), ("case 1 of {X} -> X; [X] -> X; _ -> 1 end", "", "", "X"),
    ("case 1 of X -> 1 end", "X", "X", ""), ("if true -> X = 1; true -> X = 2 end", "", "X", ""),
    ("if true -> X = 1; true -> Y = 2 end", "", "", "X Y"), ("if true -> X = 1, Y = X end", "", "X Y", ""),
    ("receive X -> 1; {X, Y} -> 2 end", "", "X", "Y"), ("receive X -> 1 after T = 5 -> X = 2 end", "", "X", "T"),
    ("receive X -> T = 1 after T = 5 -> X = 2 end", "", "T X", ""), ("receive after T = 5 -> X = T end", "", "T X", ""),
    ("receive X -> 1 after 5 -> 2 end", "", "", "X"), ("receive X -> 1 after X = 5 -> 2 end", "", "X", ""),
    ("case 1 of 1 -> {X = 1, X = 2}; _ -> X = 3 end", "", "", "X"), ("case 1 of 1 -> case 2 of X -> 1 end; X -> 2 end", "", "X", ""),
    ("case 1 of 1 -> catch X = 1; X -> 2 end", "", "", "X"),
    # try, funs, ways: nothing is seen behind
    ("try X = 1 of Y -> Z = 2 catch W -> V = 3 after U = 4 end", "", "", ""), ("try 1 catch X:Y -> 1 end", "Z", "Z", ""),
    ("fun (X) -> Y = 1 end", "", "", ""), ("fun F(X) -> Y = F end", "Z", "Z", ""), ("[Z = X || X <- Y = [1], V = true]", "", "", ""),
    ("fun f/1", "X", "X", ""), ("fun m:f/1", "", "", ""), ("{try {X = 1, X = 2} after 1 end}", "", "", ""),
    # right sides, catch
    ("(X = true) andalso (Y = true)", "", "X", "Y"), ("(X = true) orelse (Y = X)", "", "X", "Y"), ("(X = true) orelse (X = true)", "", "X", ""),
    ("catch X = 1", "", "", "X"), ("catch {X = 1, Y}", "Y", "Y", "X"), ("catch case 1 of X -> 1; Y -> 2 end", "", "", "X Y"),
    ("(catch X = 1) + (X = 2)", "", "", "X"), ("true andalso (catch X = 1)", "", "", "X"),
    # bodies; what is unsafe stays so
    ("begin X = 1, Y = X end", "", "X Y", ""), ("begin catch X = 1, X = 2 end", "", "", "X"), ("begin {X = 1, X = 2}, X = 3, Y = 4 end", "", "Y", "X"),
    ("begin catch X = 1, case 1 of X -> 1 end end", "", "", "X"), ("begin try X = 1 after 2 end, X = 2 end", "", "X", ""),
    ("begin case 1 of X -> 1; _ -> 2 end, case 2 of X -> 1; Y -> X = 2 end end", "", "", "X Y"),
)

# The form, the names bound ahead, those of them that it holds.
HELD = (
    ("X", "X Y", "X"), ("1", "X", ""), ("{X, Y, Z}", "X Z", "X Z"), ("X = Y", "X Y", "X Y"), ("X = Y", "Y", "Y"),
    ("fun () -> X end", "X Y", "X"), ("fun (X) -> X + Y end", "X Y", "Y"), ("fun (X) -> Y; (Y) -> X end", "X Y", "X Y"),
    ("fun (X) -> 1; (_) -> X end", "X", "X"), ("fun ({X, [Y | Z]}) -> {X, Y, Z} end", "X Y Z", ""), ("fun (#{K := V}) -> V end", "K V", "K"),
    ("fun (K, #{K := V}) -> K end", "K V", "K"), ("fun (X) when X > Y -> 1 end", "X Y", "Y"), ("fun F(X) -> F(Y) end", "F X Y", "Y"),
    ("fun () -> fun (X) -> X end, X end", "X", "X"), ("fun () -> fun (X) -> X end end", "X", ""), ("fun () -> Y = X, Y end", "X Y", "X Y"),
    ("fun (X) -> fun () -> X end end", "X", ""), ("fun () -> Y = 1 end", "X", ""), ("fun F() -> fun (F) -> 1 end end", "F", ""),
    ("[X || X <- Y]", "X Y", "Y"), ("[X || X <- X]", "X", "X"), ("[X || Y <- Z, X]", "X Y Z", "X Z"), ("[X || Y <- [1], X <- Y]", "X Y", ""),
    ("[1 || Y, Y <- [1], Y]", "Y", "Y"), ("[1 || #{K := V} <- V]", "K V", "K V"), ("[1 || K <- [1], #{K := V} <- [1]]", "K", ""),
    ("[X || X <- [1]] ++ [X]", "X", "X"), ("case X of Y -> Z; {W} when V -> U end", "U V W X Y Z", "U V W X Y Z"),
    ("try A of B -> C catch D:E when F -> G after H end", "A B C D E F G H", "A B C D E F G H"),
    ("receive A when B -> C after D -> E end", "A B C D E", "A B C D E"), ("#{K := V} = M", "K M V", "K M V"),
    ("A:B(C)", "A B C", "A B C"), ("A(B)", "A B", "A B"), ("A#{B => C, D := E}", "A B C D E", "A B C D E"), ("catch A", "A", "A"),
    ("A andalso B orelse C", "A B C", "A B C"), ("[A, B | C]", "A B C", "A B C"), ("A ! B", "A B", "A B"), ("if A -> B end", "A B", "A B"),
    ("begin A, B end", "A B", "A B"), ("fun f/1", "A", ""), ("self()", "A", ""), ("X", "", ""),
)


def names(text):
    return tuple(text.split())


class Scopes(unittest.TestCase):
    def test_bound_behind(self):
        for text, ahead, sure, unsafe in BEHIND:
            form = read_expression(text)
            self.assertEqual((names(sure), names(unsafe)), bound_behind(form, names(ahead)), text)
            told = bound_behind(form, (*names(ahead), "Qq", "Aa"))
            self.assertEqual(tuple(sorted(("Aa", "Qq", *names(sure)))), told[0], text)

    def test_held_names(self):
        for text, ahead, held in HELD:
            form = read_expression(text)
            self.assertEqual(names(held), held_names(form, names(ahead)), text)
            self.assertEqual(names(held), held_names(form, (*reversed(names(ahead)), "Qq")), text)
            self.assertEqual((), held_names(form, ("Qq", "Rr")))

    def test_held_names_of_patterns(self):
        one = Module("-module(m). f({X, [Y | _], #{K := V}, Z = -1}) -> 1.").clauses("f", 1)[0][0][0]
        self.assertEqual(("K", "V", "X", "Y", "Z"), held_names(one, ("Z", "Y", "X", "V", "K", "Q")))

    def test_the_worked_example(self):
        form = read_expression("case X of {a, Y} -> Y; _ -> Z = 1, Z end")
        self.assertEqual((("X",), ("Y", "Z")), bound_behind(form, ("X",)))


if __name__ == "__main__":
    unittest.main()
