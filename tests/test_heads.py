"""Section 14: heads, and which clauses take subjects."""

import random
import unittest

from arrivalmill.errors import BadHeads, BadHeld, BadNames, BadNumbers, BadSubjects, NoFunction
from arrivalmill.heads import Heads, clause_taken, fitting, heads_of
from arrivalmill.plain import worth
from arrivalmill.reading import Module, read_expression
from tests import shaping

X, Y, ANY = ("name", "X"), ("name", "Y"), ("any",)
ONE = ("number", 1)


def heads(*patterns, known=(), guards=()):
    return Heads(tuple((row, ("g",) if at in guards else (), ()) for at, row in enumerate(patterns)), known)


class Kept(unittest.TestCase):
    def test_what_is_kept(self):
        told = (((X, ("tuple", (Y, ("name", "K")))), (), ("b",)), ((("map", ((("name", "K"), X),)), X), ("g", 1), ()))
        one = Heads(told, ("K", "L"))
        self.assertEqual((told, ("K", "L"), 2, (False, True), (("X", "Y"), ("X",)), 2), (one.cases, one.known, one.width, one.guards, one.binds, len(one)))
        self.assertEqual(0, heads((), ()).width)
        self.assertEqual((("X",),), heads((X, X)).binds)

    def test_equal(self):
        one = heads((X,), (ONE,), guards=(1,))
        self.assertEqual(one, Heads((((X,), (), (1,)), ((ONE,), ("h",), ())), ()))
        for other in (heads((X,), (ONE,)), heads((X,), (ONE,), guards=(0,)), heads((Y,), (ONE,), guards=(1,)), heads((X,), guards=()), heads((X,), (ONE,), known=("K",), guards=(1,)), one.cases, None):
            self.assertFalse(one == other)

    def test_wrong_names(self):
        for known in (None, ["K"], ("K", "K"), ("L", "K"), ("k",), (1,), ("_",), "K", (("K", 1),)):
            with self.assertRaises(BadNames) as caught:
                Heads(None, known)
            self.assertIs(known, caught.exception.value)

    def test_wrong_clauses(self):
        good = ((X,), (), ())
        for value in (None, (), [good], (good,) * 13, good[0][0][0]):
            with self.assertRaises(BadHeads) as caught:
                Heads(value, ())
            self.assertIsNone(caught.exception.value)
        for clause in (None, list(good), good[:2], (*good, ()), ([X], (), ()), ((X,), None, ()), ((X,), (), []), ((X, Y), (), ()), ((), (), ()), ((1,), (), ()), ((("number", True),), (), ()),
                       ((("map", ((X, ANY),)),), (), ()), ((("op", "-", (ONE,)),), (), ()), ((("tuple", [X]),), (), ()), ((("map", ((("name", "L"), ANY),)),), (), ())):
            for at in (1, 2):
                with self.assertRaises(BadHeads) as caught:
                    Heads((*(good,) * at, clause, None), ("K",))
                self.assertEqual(at, caught.exception.value)
        with self.assertRaises(BadHeads) as caught:
            Heads((((X,) * 5, (), ()),), ())
        self.assertEqual(0, caught.exception.value)
        self.assertEqual((12, 4), (len(Heads((((X,) * 4, (), ()),) * 12, ())), Heads((((X,) * 4, (), ()),) * 12, ()).width))

    def test_heads_of(self):
        module = Module("-module(m). f(X, {X}) when X > 1 -> X; f(_, [1 | _]) -> 2. g(#{X := _}) -> X. h(_, _, _, _, _) -> 1. k() -> 1. " + "l(1) -> 1" + "; l(1) -> 1" * 12 + ".")
        one = heads_of(module, "f", 2)
        self.assertEqual((module.clauses("f", 2), (), (True, False), (("X",), ())), (one.cases, one.known, one.guards, one.binds))
        self.assertEqual(0, heads_of(module, "k", 0).width)
        for name, many in (("f", 1), ("x", 0), (1, 2), ("f", True)):
            with self.assertRaises(NoFunction) as caught:
                heads_of(module, name, many)
            self.assertEqual((name, many), caught.exception.value)
        for name, many, value in (("g", 1, 0), ("h", 5, 0), ("l", 1, None)):
            with self.assertRaises(BadHeads) as caught:
                heads_of(module, name, many)
            self.assertEqual(value, caught.exception.value)


class Taken(unittest.TestCase):
    def test_patterns_of_all_forms(self):
        rows = ((ONE, 1, "1"), (("atom", "a"), "a", "b"), (("bytes", (1, 2)), ("bytes", 1, 2), ("bytes", 1)), (("nil",), ("list",), ("tuple",)), (ANY, ("pid", ()), None),
                (("tuple", (X, X)), ("tuple", 1, 1), ("tuple", 1, 2)), (("tuple", ()), ("tuple",), ("tuple", 1)), (("cons", ONE, X), ("list", 1), ("list",)),
                (("cons", X, X), ("list", ("list",)), ("list", 1)), (("cons", ONE, ("atom", "b")), ("odd", 1, "b"), ("odd", 1, "c")), (("map", ()), ("map", (1, 2)), ("list",)),
                (("map", ((ONE, X), (("atom", "a"), X))), ("map", (1, 5), ("a", 5)), ("map", (1, 5), ("a", 6))), (("map", ((("name", "K"), ANY),)), ("map", (("list", 3), 1)), ("map", ("K", 1))),
                (("alias", X, ("tuple", (ANY,))), ("tuple", 1), 1), (("name", "K"), ("list", 3), 3), (("tuple", (X, ("name", "K"))), ("tuple", 1, ("list", 3)), ("tuple", 1, 1)))
        held = (("K", ("list", 3)),)
        for pattern, yes, no in rows:
            one = heads((pattern,), known=("K",))
            self.assertEqual((0,), fitting(one, (yes,), held), pattern)
            if no is not None:
                self.assertEqual((), fitting(one, (no,), held), pattern)
        # Names are the same in all patterns of a clause, and each clause has its own.
        two = heads((X, X), (Y, X))
        self.assertEqual(((0, 1), (1,)), (fitting(two, (1, 1), ()), fitting(two, (1, 2), ())))

    def test_drawn(self):
        rng = random.Random(71)
        for _ in range(300):
            known = tuple(sorted(rng.sample(("K", "L"), rng.choice((0, 0, 1, 2)))))
            width = rng.choice((0, 1, 1, 2, 3))
            cases = shaping.clauses(rng, known, width, rng.randint(1, 5))
            one = Heads(cases, known)
            for _ in range(10):
                worths = {}
                subjects = tuple(shaping.alike(rng, part, worths) for part in rng.choice(cases)[0])
                held = tuple((name, worths.get(name, 1)) for name in known)
                failing = tuple(at for at in range(len(cases)) if one.guards[at] and rng.random() < 0.5)
                wanted = []
                for at, (patterns, _, _) in enumerate(cases):
                    names = {}
                    if all([shaping.fits(part, inner, names, dict(held)) for part, inner in zip(patterns, subjects)]):
                        wanted.append((at, tuple((name, names[name]) for name in one.binds[at])))
                self.assertEqual(tuple(at for at, _ in wanted), fitting(one, subjects, held))
                takes = [row for row in wanted if row[0] not in failing]
                self.assertEqual(takes[0] if takes else None, clause_taken(one, subjects, held, failing))

    def test_as_functions_take_them(self):
        text = "-module(m). -export([f/2]). f({X, X}, _) -> 0; f([X | Y], X) -> {1, Y}; f(#{a := X}, [_, X]) -> 2; f(X = {_, _}, 1) -> X; f(_, _) -> 4."
        module = Module(text)
        one = heads_of(module, "f", 2)
        for subjects in ((("tuple", 1, 1), 5), (("list", 1, 2), 1), (("list", 1, 2), 2), (("map", ("a", 1)), ("list", 0, 1)), (("tuple", 1, 2), 1), (1, 1)):
            value = worth((module,), "m", "f", subjects)[1]
            number, names = clause_taken(one, subjects, (), ())
            self.assertEqual({0: 0, 1: ("tuple", 1, dict(names).get("Y")), 2: 2, 3: dict(names).get("X"), 4: 4}[number], value)

    def test_errors_in_their_sequence(self):
        one = heads((X, ANY), (Y, ONE), (ONE, ANY), known=("K",), guards=(0, 2))
        subjects, held = (1, 1), (("K", 1),)
        self.assertEqual((1, (("Y", 1),)), clause_taken(one, subjects, held, (0, 2)))
        for value in (None, [1, 1], (1,), (1, 1, 1), (True, 1), (1, [])):
            for call in (lambda: fitting(one, value, None), lambda: clause_taken(one, value, None, None)):
                with self.assertRaises(BadSubjects) as caught:
                    call()
                self.assertIs(value, caught.exception.value)
        for value in (None, (), [("K", 1)], (("L", 1),), (("K", True),), (["K", 1],), (("K", 1), ("L", 1)), (("K",),), ("K",), ((1, 1),)):
            for call in (lambda: fitting(one, subjects, value), lambda: clause_taken(one, subjects, value, None)):
                with self.assertRaises(BadHeld) as caught:
                    call()
                self.assertIs(value, caught.exception.value)
        for value in (None, [0], (1,), (3,), (2, 0), (0, 0), (-1,), (False,), (0, True)):
            with self.assertRaises(BadNumbers) as caught:
                clause_taken(one, subjects, held, value)
            self.assertIs(value, caught.exception.value)
        self.assertIsNone(clause_taken(heads((ONE,)), (2,), (), ()))
        self.assertEqual(4, len(read_expression("case 1 of _ -> 2 end")) + 1)


if __name__ == "__main__":
    unittest.main()
