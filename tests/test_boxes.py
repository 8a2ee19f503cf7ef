"""Section 11: boxes, receives that go through them, and the clock."""

import random
import unittest

from arrivalmill.boxes import Box, taken, visit
from arrivalmill.errors import BadBox, BadComings, BadNames, BadTerm, BadTime, Held, NoLetter
from arrivalmill.plain import held, lets
from arrivalmill.reading import read_expression
from arrivalmill.timers import Clock

A, B = ("ref", (), 1), ("ref", (), 2)


def clauses(text):
    return read_expression("receive " + text + " end")[1]


def down(reference, reason="x"):
    return ("tuple", "DOWN", reference, "process", ("pid", ()), reason)


class Boxes(unittest.TestCase):
    def test_box(self):
        box = Box((1, "a", ("list", 1)))
        self.assertEqual((1, "a", ("list", 1)), box.letters)
        self.assertEqual(3, len(box))
        self.assertEqual(Box((1, "a", ("list", 1), 2)), box.with_letter(2))
        self.assertEqual([Box(("a", ("list", 1))), Box((1, ("list", 1))), Box((1, "a"))], [box.without(number) for number in range(3)])
        self.assertEqual((1, "a", ("list", 1)), box.letters)
        self.assertTrue(1 in box and ("list", 1) in box)
        for value in (True, 2, [1], ("list", True), ["list", 1], None, {}, box):
            self.assertFalse(value in box, value)
        self.assertFalse(box == (1, "a", ("list", 1)) or box == Box(()) or box != Box((1, "a", ("list", 1))))

    def test_wrong_letters_and_numbers(self):
        for value in (None, [1], (True,), (1, "a b"), 5, "a", {}, (1, [2])):
            with self.assertRaises(BadBox) as caught:
                Box(value)
            self.assertIs(value, caught.exception.value)
        for value in (True, [1], "", None):
            self.assertRaises(BadTerm, Box(()).with_letter, value)
            self.assertRaises(BadTerm, Box(()).flushed, value)
        for value in (-1, 2, True, None, "0", (0,)):
            with self.assertRaises(NoLetter) as caught:
                Box((1, 2)).without(value)
            self.assertIs(value, caught.exception.value)

    def test_flushed(self):
        letters = (down(B), 1, down(A, 1), down(A, 2), ("tuple", "DOWN", A))
        self.assertEqual(letters[:2] + letters[3:], Box(letters).flushed(A).letters)
        self.assertEqual(letters, Box(letters).flushed(("ref", (), 3)).letters)
        odd = ("tuple", "DOWN", 7, 1, 2, 3)
        self.assertEqual((), Box((odd,)).flushed(7).letters)
        for other in (("list", *odd[1:]), ("tuple", "UP", 7, 1, 2, 3), (*odd, 1), odd[:-1], ("tuple", "DOWN", 8, 7, 7, 7)):
            self.assertEqual((other,), Box((other,)).flushed(7).letters)

    def test_taken(self):
        rows = clauses("{X, Y} when Y > 1 -> Y; stop -> 0; X -> X")
        two, three = ("tuple", "a", 2), ("tuple", "b", 3)
        self.assertEqual((2, 0, (("X", "a"), ("Y", 2))), taken(Box(("go", three, two)), rows[:2], (("X", "a"),)))
        self.assertEqual((0, 1, (("Z", 1),)), taken(Box(("stop", two)), rows, (("Z", 1),)))
        self.assertEqual((0, 2, (("X", "go"),)), taken(Box(("go", two)), rows, ()))
        self.assertIsNone(taken(Box(("go", 1)), rows[:2], ()))
        self.assertIsNone(taken(Box(()), rows, ()))
        raising = clauses("X when hd(X) > 0 -> 1; Y when Y; Y =:= self() -> 2")
        self.assertEqual((2, 1, (("Y", ("pid", ())),)), taken(Box((1, ("pid", (1,)), ("pid", ()))), raising, ()))
        self.assertEqual((0, 0, (("X", ("list", 1)),)), taken(Box((("list", 1),)), raising, ()))

    def test_names(self):
        for names in (None, [("X", 1)], (("X", 1), ("X", 1)), (("Y", 1), ("X", 1)), (("x", 1),), (("X", True),), (("X",),), ("X",), (["X", 1],)):
            for call in (lambda: taken(Box(()), clauses("a -> 1"), names),
                         lambda: visit(Box(()), (), clauses("a -> 1"), names, "a")):
                with self.assertRaises(BadNames) as caught:
                    call()
                self.assertIs(names, caught.exception.value)


class Visits(unittest.TestCase):
    ROWS = clauses("{X} -> X; stop -> 0")
    ONE, TWO = ("tuple", 1), ("tuple", 2)

    def visit(self, letters, comings, time):
        told = visit(Box(letters), comings, self.ROWS, (), time)
        return tuple(part.letters if isinstance(part, Box) else part for part in told)

    def letter(self, term):
        return ("letter", term)

    def test_what_is_in_the_box(self):
        comings = (("over",), self.letter("a"), self.letter(self.ONE))
        for time in (None, 0, 1, 9):
            self.assertEqual(("took", 1, 0, (("X", 2),), ("b", "stop", "a", self.ONE), 2),
                             self.visit(("b", self.TWO, "stop"), comings, time))
            self.assertEqual(("took", 0, 1, (), ("b", "a", self.ONE), 1), self.visit(("stop", "b"), comings, time))

    def test_what_comes(self):
        ahead = (self.letter("a"), self.letter(self.ONE), ("over",), self.letter(self.TWO))
        for time in (None, 1, 9):
            self.assertEqual(("took", 2, 0, (("X", 1),), ("b", "a", self.TWO), 3), self.visit(("b",), ahead, time))
        self.assertEqual(("over", ("b", "a", self.ONE, self.TWO), 1), self.visit(("b",), ahead, 0))
        behind = (self.letter("a"), ("over",), self.letter(self.ONE), self.letter("c"))
        self.assertEqual(("took", 2, 0, (("X", 1),), ("b", "a", "c"), 3), self.visit(("b",), behind, None))
        self.assertEqual(("over", ("b", "a", self.ONE, "c"), 2), self.visit(("b",), behind, 1))
        self.assertEqual(("over", ("b", "a", self.ONE, "c"), 1), self.visit(("b",), behind, 0))

    def test_nothing_decides(self):
        comings = (self.letter("a"), self.letter("c"))
        self.assertEqual(("waits", ("b", "a", "c"), 3), self.visit(("b",), comings, 3))
        self.assertEqual(("waits", ("b", "a", "c"), 3), self.visit(("b",), (*comings, ("over",)), None))
        self.assertEqual(("waits", (), 0), self.visit((), (), None))
        self.assertEqual(("over", (), 0), self.visit((), (), 0))

    def test_drawn(self):
        rng = random.Random(7)
        letters = (self.ONE, self.TWO, "stop", "a", "b", 1)
        rows = clauses("{X} when X > Y -> X; stop when Y =:= 1 -> 0; X when is_integer(X), X > 0 -> 1")
        for _ in range(300):
            box = tuple(rng.choice(letters[3:] if rng.random() < 0.8 else letters) for _ in range(rng.randint(0, 4)))
            comings = tuple(("over",) if rng.random() < 0.2 else self.letter(rng.choice(letters)) for _ in range(rng.randint(0, 5)))
            time, names = rng.choice((None, 0, 1, 5)), (("Y", rng.choice((0, 1))),)
            told = visit(Box(box), comings, rows, names, time)
            self.assertEqual(self.wanted(box, comings, rows, names, time), tuple(p.letters if isinstance(p, Box) else p for p in told))

    def wanted(self, box, comings, rows, names, time):
        events = [*(("letter", letter) for letter in box), *([("over",)] if time == 0 else comings)]
        everything = [*box, *(row[1] for row in comings if row[0] == "letter")]
        seen = 0
        for event in events:
            if event[0] == "over":
                if time is not None:
                    return ("over", tuple(everything), seen)
                continue
            seen += 1
            for at, (patterns, guard, _) in enumerate(rows):
                found = held(patterns[0], event[1], names)
                if found is not None and lets(guard, found):
                    return ("took", seen - 1, at, found, tuple(everything[:seen - 1] + everything[seen:]), seen)
        return ("waits", tuple(everything), seen)

    def test_errors_in_their_sequence(self):
        for comings in (None, [], (1,), (("letter",),), (("letter", True),), (("over", 1),), (("other",),), (["over"],), ((),), (("letter", 1, 2),), ((True,),)):
            with self.assertRaises(BadComings) as caught:
                visit(Box(()), comings, self.ROWS, None, -1)
            self.assertIs(comings, caught.exception.value)
        for time in (-1, True, "infinity", (1,), 1.5):
            with self.assertRaises(BadTime) as caught:
                visit(Box(()), (), self.ROWS, (), time)
            self.assertIs(time, caught.exception.value)


class Clocks(unittest.TestCase):
    def test_timers(self):
        first = Clock()
        self.assertEqual((0, ()), (first.now, first.timers))
        clock, sent = first.with_timer("a", 2, "p", "s")
        self.assertEqual(((), (("a", 2, "p", "s"),), ()), (sent, clock.timers, first.timers))
        clock, _ = clock.with_timer("b", 1, "q", "t")
        clock, _ = clock.with_timer("c", 2, "q", "u")
        clock, sent = clock.ticked()
        self.assertEqual((1, (("q", "t"),), ["a", "c"]), (clock.now, sent, [row[0] for row in clock.timers]))
        later, _ = clock.with_timer("d", 1, "p", "v")
        self.assertEqual((2, (("p", "s"), ("q", "u"), ("p", "v"))), (later.ticked()[0].now, later.ticked()[1]))
        self.assertEqual((), later.ticked()[0].timers)
        self.assertEqual((1, ["a", "c"]), (clock.now, [row[0] for row in clock.timers]))

    def test_time_none(self):
        clock, sent = Clock().with_timer("a", 0, "p", "s")
        self.assertEqual((Clock(), (("p", "s"),)), (clock, sent))
        held_clock, _ = clock.with_timer("a", 5, "p", "s")
        for time in (0, 1, 5):
            with self.assertRaises(Held) as caught:
                held_clock.with_timer("a", time, "p", "s")
            self.assertEqual("a", caught.exception.value)
        for time in (-1, True, None, "1"):
            with self.assertRaises(BadTime) as caught:
                held_clock.with_timer("a", time, "p", "s")
            self.assertIs(time, caught.exception.value)

    def test_without(self):
        clock = Clock().with_timer("a", 5, "p", "s")[0].ticked()[0].ticked()[0]
        left, behind = clock.without("a")
        self.assertEqual((3, 2, ()), (left, behind.now, behind.timers))
        self.assertEqual((None, clock), clock.without("b"))
        three = clock.with_timer("b", 1, "p", "s")[0].with_timer("c", 1, "p", "s")[0].with_timer("d", 9, "p", "s")[0]
        self.assertEqual([1, 1, 9], [three.without(key)[0] for key in "bcd"])
        self.assertEqual(["a", "c", "d"], [row[0] for row in three.without("b")[1].timers])
        self.assertEqual((None, behind), behind.without("a"))
        self.assertEqual(1, len(clock.timers))

    def test_equal(self):
        one = Clock().with_timer("a", 5, "p", "s")[0]
        self.assertEqual(one, Clock().with_timer("a", 5, "p", "s")[0])
        self.assertFalse(one == Clock() or Clock() == Clock().ticked()[0] or Clock() == 0 or one != one)
        moved = Clock().ticked()[0].with_timer("a", 4, "p", "s")[0]
        self.assertEqual(one.timers, moved.timers)
        self.assertFalse(one == moved)


if __name__ == "__main__":
    unittest.main()
