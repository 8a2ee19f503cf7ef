"""Section 14: trees of questions, and which clauses are reached."""

import random
import unittest

from arrivalmill.errors import BadHeld, BadNumbers, BadSubjects, BadTree
from arrivalmill.heads import Heads, clause_taken, fitting
from arrivalmill.questions import settled
from arrivalmill.reading import Module
from arrivalmill.heads import heads_of
from arrivalmill.trees import goes, reached, shows_reached, shows_tree, shows_untaken, tree, untaken
from tests import shaping
from tests.test_questions import answer, at

X, Y, ANY, ONE = ("name", "X"), ("name", "Y"), ("any",), ("number", 1)


def heads(*patterns, known=(), guards=()):
    return Heads(tuple((row, ("g",) if number in guards else (), ()) for number, row in enumerate(patterns)), known)


def drawn(rng):
    known = tuple(sorted(rng.sample(("K", "L"), rng.choice((0, 0, 1, 2)))))
    return Heads(shaping.clauses(rng, known, rng.choice((0, 1, 1, 2, 2, 3)), rng.randint(1, 4)), known)


def subjects_for(rng, one):
    worths = {}
    rows = rng.choice(one.cases)[0]
    subjects = tuple(shaping.alike(rng, part, worths) for part in rows) if rng.random() < 0.85 else tuple(shaping.term(rng, 2) for _ in rows)
    return subjects, tuple((name, worths.get(name, 1)) for name in one.known)


def parts(told):
    """All trees within a tree, each with a function that puts another one in its place."""
    row = [(told, lambda other: other)]
    while row:
        part, put = row.pop()
        yield part, put
        if part[0] == "ask":
            row.append((part[3], lambda other, part=part, put=put: put((*part[:3], other, part[4]))))
            row.append((part[4], lambda other, part=part, put=put: put((*part[:4], other))))
        elif part[0] == "fits" and part[3] is not None:
            row.append((part[3], lambda other, part=part, put=put: put((*part[:3], other))))


class Trees(unittest.TestCase):
    def test_drawn(self):
        rng = random.Random(91)
        for _ in range(150):
            one = drawn(rng)
            told = tree(one)
            self.assertTrue(shows_tree(one, told))
            for _ in range(12):
                subjects, held = subjects_for(rng, one)
                failing = tuple(number for number in range(len(one)) if one.guards[number] and rng.random() < 0.5)
                taken = clause_taken(one, subjects, held, failing)
                part, way = told, []
                while part[0] == "ask" or (part[0] == "fits" and part[1] in failing):
                    if part[0] == "ask":
                        self.assertEqual("open", settled(one.width, one.known, tuple(way), part[1], part[2]))
                        way.append((part[1], part[2], answer(part[1], part[2], subjects, dict(held))))
                        part = part[3] if way[-1][2] else part[4]
                    else:
                        part = part[3]
                if taken is None:
                    self.assertEqual(("none",), part)
                else:
                    self.assertEqual(taken, (part[1], tuple((name, at(place, subjects, dict(held))) for name, place in part[2])))
            self.assertEqual((None if taken is None else taken[0], tuple(way)), goes(one, told, subjects, held, failing))

    def test_bent_trees(self):
        rng = random.Random(92)
        refused = 0
        for _ in range(25):
            one = drawn(rng)
            told = tree(one)
            for part, put in list(parts(told))[:25]:
                for other in self.bent(part, one):
                    self.assertFalse(shows_tree(one, put(other)), (one.cases, part, other))
                    refused += 1
        self.assertTrue(refused > 500, refused)

    def bent(self, part, one):
        """Trees that are no right ones in the place of a right one."""
        yield from (None, [], list(part), part[:-1], (*part, 1), ("other",), (1,), ())
        if part[0] == "ask":
            _, place, question, yes, no = part
            yield from (("ask", (9,), question, yes, no), ("ask", [*place], question, yes, no), ("ask", place, ("other",), yes, no), ("ask", place, None, yes, no),
                        ("ask", place, question, part, no), ("ask", place, question, yes, part), ("ask", place, question, None, no))
            if yes != no:
                yield ("none",) if yes != ("none",) or no != ("none",) else None
        if part[0] == "fits":
            _, number, names, rest = part
            yield from (("none",), ("fits", number + 1, names, rest) if number + 1 >= len(one) else None, ("fits", -1, names, rest), ("fits", bool(number), names, rest) if number < 2 else None,
                        ("fits", None, names, rest), ("fits", number, list(names), rest), ("fits", number, tuple(list(pair) for pair in names), rest) if names else None, ("fits", number, (*names, ("Z", (0,))), rest), ("fits", number, names[:-1], rest) if names else None)
            if one.guards[number]:
                yield from (("fits", number, names, None), ("fits", number, names, part))
            else:
                yield from (("fits", number, names, ("none",)), ("fits", number, names, part))
        if part[0] == "none":
            yield from (("fits", number, (), None) for number in range(len(one)) if not one.binds[number] and one.width)

    def test_small_ones(self):
        one = heads((("tuple", (X, X)),), (("cons", ONE, ANY),), (ANY,), guards=(2,))
        yes = ("ask", (0, 1), ("same", (0, 0)), ("fits", 0, (("X", (0, 0)),), None), ("fits", 2, (), ("none",)))
        cons = ("ask", (0,), ("cons",), ("ask", (0, "first"), ("is", 1), ("fits", 1, (), None), ("fits", 2, (), ("none",))), ("fits", 2, (), ("none",)))
        right = ("ask", (0,), ("tuple", 2), yes, cons)
        self.assertTrue(shows_tree(one, right))
        # Another sequence of questions, and another place of a name, are as right.
        turned = ("ask", (0,), ("cons",), cons[3], ("ask", (0,), ("tuple", 2), yes, ("fits", 2, (), ("none",))))
        self.assertTrue(shows_tree(one, turned))
        other = (*yes[:3], ("fits", 0, (("X", (0, 1)),), None), yes[4])
        self.assertTrue(shows_tree(one, (*right[:3], other, cons)))
        flipped = ("ask", (0, 0), ("same", (0, 1)), *yes[3:])
        self.assertTrue(shows_tree(one, (*right[:3], flipped, cons)))
        for wrong in ((*right[:3], cons, yes), (*right[:3], (*yes[:3], ("fits", 0, (("X", (0,)),), None), yes[4]), cons), (*right[:3], yes, ("fits", 2, (), ("none",))),
                      (*right[:3], ("ask", (0,), ("cons",), yes, yes), cons), (*right[:3], ("ask", (0,), ("tuple", 2), yes, yes), cons), (*right[:3], yes, (*cons[:4], ("none",))),
                      (*right[:3], (*yes[:4], ("fits", 1, (), None)), cons), (*right[:3], (*yes[:3], ("fits", 0, (("Y", (0, 0)),), None), yes[4]), cons), ("fits", 2, (), ("none",)), ("none",)):
            self.assertFalse(shows_tree(one, wrong), wrong)
        # One more question that is open may be asked on any way.
        more = ("ask", (0,), ("is", 5), ("fits", 2, (), ("none",)), right)
        self.assertTrue(shows_tree(one, more))

    def test_known_names_and_keys(self):
        one = heads((("map", ((("name", "K"), X),)),), (("name", "K"),), (("map", ()),), known=("K",))
        right = ("ask", (0,), ("keyed", "K"), ("fits", 0, (("X", (0, ("keyed", "K"))),), None), ("ask", (0,), ("held", "K"), ("fits", 1, (), None), ("ask", (0,), ("map",), ("fits", 2, (), None), ("none",))))
        self.assertEqual(right, tree(one))
        self.assertEqual((0, (((0,), ("keyed", "K"), True),)), goes(one, right, (("map", ("a", 1)),), (("K", "a"),), ()))
        # A key may be told by another name of it.
        two = heads((ONE, ("map", ((("number", 1), Y),))), (("name", "K"), ("map", ((("name", "K"), X),))), known=("K",))
        self.assertTrue(shows_tree(two, tree(two)))
        key, other_key = (("map", ((ONE, ("atom", "a")),)), ("map", ((ONE, X),))), (("map", ((("name", "K"), ("atom", "a")),)), ("map", ((("name", "K"), X),)))
        for first, last in ((key, other_key), (other_key, key)):
            one = heads((ONE if first is key else ("name", "K"), first[0]), (ONE if last is key else ("name", "K"), last[1]), known=("K",))
            told = tree(one)
            self.assertTrue(shows_tree(one, told))
            self.assertEqual(1, goes(one, told, (1, ("map", (1, 5))), (("K", 1),), ())[0])
        same = heads((X, X, ("tuple", (ONE,))), (X, X, ANY), (("tuple", (Y,)), ANY, ANY))
        self.assertTrue(shows_tree(same, tree(same)))

    def test_of_functions(self):
        module = Module("-module(m). f([], Y) -> Y; f([X | R], [Y | S]) when X < Y -> {R, S}; f([_ | R], Y) -> {R, Y}; f({X, #{a := Y}}, Y) -> X; f(_, <<1>>) -> 1.")
        one = heads_of(module, "f", 2)
        told = tree(one)
        self.assertTrue(shows_tree(one, told))
        self.assertEqual([0, 1, 2, 3, 4, None], [goes(one, told, subjects, (), ())[0] for subjects in (
            (("list",), 1), (("list", 1), ("list", 2)), (("list", 1), 5), (("tuple", 1, ("map", ("a", 7))), 7), ("x", ("bytes", 1)), ("x", "y"))])
        self.assertEqual(2, goes(one, told, (("list", 1), ("list", 2)), (), (1,))[0])

    def test_width_none(self):
        one = heads((), (), guards=(0,))
        self.assertEqual(("fits", 0, (), ("fits", 1, (), None)), tree(one))
        self.assertEqual(((1, ()), (0, ())), (goes(one, tree(one), (), (), (0,)), goes(one, tree(one), (), (), ())))
        self.assertEqual(("fits", 0, (), ("none",)), tree(heads((), guards=(0,))))

    def test_errors_in_their_sequence(self):
        one = heads((X,), (ONE,), known=("K",), guards=(0,))
        right = tree(one)
        for value in (None, ("none",), right[:-1], list(right)):
            with self.assertRaises(BadTree) as caught:
                goes(one, value, None, None, None)
            self.assertIs(value, caught.exception.value)
        for error, arguments in ((BadSubjects, ([1], None, None)), (BadSubjects, ((), None, None)), (BadHeld, ((1,), (), None)), (BadHeld, ((1,), (("L", 1),), None)), (BadNumbers, ((1,), (("K", 1),), (1,))),
                                 (BadNumbers, ((1,), (("K", 1),), None))):
            self.assertRaises(error, goes, one, right, *arguments)


class Reached(unittest.TestCase):
    def test_drawn(self):
        rng = random.Random(93)
        seen = {"never": 0, "subjects": 0, "taken": 0}
        for _ in range(250):
            one = drawn(rng)
            rows, last = reached(one), untaken(one)
            self.assertTrue(shows_reached(one, rows) and shows_untaken(one, last))
            for number, row in enumerate(rows):
                seen[row[0]] += 1
                if row[0] == "subjects":
                    numbers = fitting(one, row[1], row[2])
                    self.assertIn(number, numbers)
                    self.assertEqual([], [other for other in numbers if other < number and not one.guards[other]])
            if last[0] == "subjects":
                self.assertEqual([], [number for number in fitting(one, last[1], last[2]) if not one.guards[number]])
            seen["taken"] += last == ("taken",)
            for _ in range(12):
                subjects, held = subjects_for(rng, one)
                numbers = fitting(one, subjects, held)
                sure = [number for number in numbers if not one.guards[number]]
                for number in numbers:
                    if not sure or number <= sure[0]:
                        self.assertEqual("subjects", rows[number][0])
                        other = (*rows[:number], ("subjects", subjects, held), *rows[number + 1:])
                        self.assertTrue(shows_reached(one, other))
                    else:
                        self.assertFalse(shows_reached(one, (*rows[:number], ("subjects", subjects, held), *rows[number + 1:])))
                if not sure:
                    self.assertTrue(shows_untaken(one, ("subjects", subjects, held)))
                else:
                    self.assertFalse(shows_untaken(one, ("subjects", subjects, held)))
        self.assertTrue(min(seen.values()) > 20, seen)

    def test_small_ones(self):
        one = heads((("tuple", (X, X)),), (("tuple", (ONE, ONE)),), (("alias", ONE, ("atom", "a")),), (("tuple", (ANY, ANY)),), (ANY,), (ONE,), guards=(3,))
        self.assertEqual(["subjects", "never", "never", "subjects", "subjects", "never"], [row[0] for row in reached(one)])
        self.assertEqual(("taken",), untaken(one))
        self.assertEqual("subjects", untaken(heads((ANY,), guards=(0,)))[0])
        self.assertEqual(("subjects", (), ()), untaken(heads((), guards=(0,))))
        self.assertEqual((("subjects", (), ()), ("never",)), reached(heads((), ())))

    def test_shown_values(self):
        one = heads((ONE,), (ONE,), (X,), known=("K",))
        right = reached(one)
        self.assertEqual([("subjects", (1,), (("K", right[0][2][0][1]),)), ("never",)], list(right[:2]))
        for value in (None, list(right), right[:2], (*right, ("never",)), (right[0], right[0], right[2]), (("never",), *right[1:]), (right[2], *right[1:]), (right[0], ["never"], right[2]), (*right[:2], right[0]),
                      (*right[:2], ("subjects", (True,), (("K", 1),))), (*right[:2], ("subjects", (2,), ())), (*right[:2], ("subjects", [2], (("K", 1),))), (*right[:2], ("taken",)), (*right[:2], None)):
            self.assertFalse(shows_reached(one, value), value)
        self.assertTrue(shows_untaken(one, ("taken",)))
        for value in (None, ["taken"], ("never",), ("subjects", (2,), (("K", 1),)), ("taken", 1)):
            self.assertFalse(shows_untaken(one, value))
        open_one = heads((ONE,))
        for value in (None, ("taken",), ("subjects", (1,), ()), ("subjects", (2,)), ["subjects", (2,), ()], ("subjects", (True,), ()), ("subjects", (2,), (("K", 1),)), ("subjects", (2, 3), ())):
            self.assertFalse(shows_untaken(open_one, value), value)
        self.assertTrue(shows_untaken(open_one, ("subjects", (2,), ())))


if __name__ == "__main__":
    unittest.main()
