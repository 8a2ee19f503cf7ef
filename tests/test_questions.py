"""Section 14: answers, which subjects answer so, and what is settled behind them."""

import itertools
import random
import unittest

from arrivalmill.errors import BadAnswers, BadNames, BadQuestion, BadWidth
from arrivalmill.questions import answering, settled, shows_answering
from arrivalmill.shapes import with_pair, with_parts
from arrivalmill.spots import There
from tests import shaping

SMALL = (1, "a", "b", ("list",))
TERMS = [1, 2, "a", "b", "c", ("list",), ("bytes", 1), ("tuple",), ("map",), *(("tuple", part) for part in SMALL), *(("tuple", one, other) for one in ("a", "b", 1) for other in ("a", "b")),
         *(with_parts((one,), rest) for one in (1, "a") for rest in (("list",), "b", ("list", 1), ("list", "a"))),
         *(with_pair(("map",), key, value) for key in (1, "a", "b", ("tuple",), ("list",), ("map",)) for value in (1, "a")),
         *(with_pair(with_pair(("map",), one, value), other, last) for one, other in ((1, "a"), ("a", "b"), (1, "b")) for value in (1, "a") for last in ("a", "b"))]


def at(place, subjects, held):
    told = subjects[place[0]]
    for step in place[1:]:
        if step == "first":
            told = told[1]
        elif step == "rest":
            told = told[2] if told[0] == "odd" and len(told) == 3 else (told[0], *told[2:])
        elif isinstance(step, tuple):
            wanted = step[1] if step[0] == "key" else held[step[1]]
            told = [value for key, value in told[1:] if key == wanted][0]
        else:
            told = told[step + 1]
    return told


def answer(place, question, subjects, held):
    """What subjects answer, by the words of section 14."""
    told, word = at(place, subjects, held), question[0]
    kind = told[0] if isinstance(told, tuple) else None
    if word == "is":
        return told == question[1]
    if word == "tuple":
        return kind == "tuple" and len(told) - 1 == question[1]
    if word == "cons":
        return kind == "odd" or (kind == "list" and len(told) > 1)
    if word == "map":
        return kind == "map"
    if word == "same":
        return told == at(question[1], subjects, held)
    if word == "held":
        return told == held[question[1]]
    return kind == "map" and (question[1] if word == "has" else held[question[1]]) in [key for key, _ in told[1:]]


def answer_so(answers, subjects, held):
    return all(answer(place, question, subjects, held) == told for place, question, told in answers)


class Answering(unittest.TestCase):
    def test_drawn(self):
        rng = random.Random(81)
        seen = {"never": 0, "subjects": 0, "yes": 0, "no": 0, "open": 0}
        for _ in range(220):
            width = rng.choice((1, 1, 2))
            known = ("K",) if width == 1 and rng.random() < 0.6 else ()
            rows = shaping.answers(rng, width, known, 6)
            told = answering(width, known, rows)
            seen[told[0]] += 1
            found = [(subjects, held) for subjects in itertools.product(TERMS, repeat=width) for held in itertools.product(TERMS, repeat=len(known))
                     if answer_so(rows, subjects, dict(zip(known, held)))]
            if told == ("never",):
                self.assertEqual([], found)
            else:
                self.assertEqual(known, tuple(name for name, _ in told[2]))
                self.assertTrue(answer_so(rows, told[1], dict(told[2])))
            self.assertTrue(shows_answering(width, known, rows, told))
            for subjects, held in found[:3]:
                self.assertTrue(shows_answering(width, known, rows, ("subjects", subjects, tuple(zip(known, held)))))
            for _ in range(4):
                self.settle(rng, width, known, rows, found, seen)
        self.assertTrue(min(seen.values()) > 30, seen)

    def settle(self, rng, width, known, rows, found, seen):
        place, question = shaping.questions(rng, There(width, known, rows), known)
        word = settled(width, known, rows, place, question)
        seen[word] += 1
        told = {answer(place, question, subjects, dict(zip(known, held))) for subjects, held in found}
        if word == "open":
            for value in (True, False):
                self.assertEqual("subjects", answering(width, known, (*rows, (place, question, value)))[0])
        else:
            self.assertTrue(told <= {word == "yes"})
            self.assertEqual(("never",), answering(width, known, (*rows, (place, question, word == "no"))))

    def settled(self, wanted, rows, place, question, width=2, known=("K", "L")):
        self.assertEqual(wanted, settled(width, known, tuple(rows), place, question), (rows, place, question))

    def test_endless_atoms(self):
        many = [((0,), ("is", number), False) for number in range(25)] + [((0,), (word,), False) for word in ("cons", "map")] + [((0,), ("tuple", size), False) for size in range(20)]
        self.assertEqual("subjects", answering(1, (), tuple(many))[0])
        self.settled("open", many, (0,), ("is", 25))
        self.settled("no", many, (0,), ("is", 3))
        for known in ((), ("K",)):
            self.assertEqual("subjects", answering(2, known, tuple(((0,), ("is", "a" + str(number)), False) for number in range(9)))[0])
        self.settled("open", [((0,), ("is", "a1"), False), ((0,), ("same", (1,)), False)], (1,), ("is", "a1"))

    def test_no_term_is_in_itself(self):
        self.assertEqual(("never",), answering(1, ("K",), (((0,), ("keyed", "K"), True), ((0,), ("held", "K"), True))))
        self.settled("no", [((0,), ("tuple", 1), True)], (0, 0), ("same", (0,)))
        self.settled("no", [((0,), ("cons",), True), ((0, "rest"), ("cons",), True)], (0, "rest", "rest"), ("same", (0,)))
        self.settled("no", [((0,), ("has", 1), True)], (0, ("key", 1)), ("same", (0,)))
        self.settled("no", [((0,), ("keyed", "K"), True)], (0,), ("held", "K"))
        self.settled("no", [((0,), ("tuple", 1), True), ((1,), ("tuple", 1), True), ((0, 0), ("same", (1,)), True)], (1, 0), ("same", (0,)))
        self.settled("no", [((0,), ("keyed", "K"), True), ((1,), ("held", "K"), True), ((1,), ("tuple", 1), True)], (1, 0), ("same", (0,)))

    def test_equal_keys_have_one_value(self):
        rows = [((0,), ("keyed", "K"), True), ((0,), ("keyed", "L"), True)]
        self.settled("open", rows, (0, ("keyed", "K")), ("same", (0, ("keyed", "L"))))
        same = [*rows, ((1,), ("held", "K"), True), ((1,), ("held", "L"), True)]
        self.settled("yes", same, (0, ("keyed", "K")), ("same", (0, ("keyed", "L"))))
        told = [((0,), ("has", 1), True), ((0,), ("keyed", "K"), True), ((1,), ("held", "K"), True)]
        self.settled("open", told, (0, ("keyed", "K")), ("same", (0, ("key", 1))))
        self.settled("yes", [*told, ((1,), ("is", 1), True)], (0, ("keyed", "K")), ("same", (0, ("key", 1))))
        self.settled("yes", [((0,), ("has", 1), True), ((1,), ("is", 1), True), ((1,), ("held", "K"), True)], (0,), ("keyed", "K"))
        # Keys that are made of equal parts are equal.
        keys = [((0,), ("tuple", 2), True), ((0, 0), ("tuple", 1), True), ((0, 1), ("tuple", 1), True), ((0, 0), ("held", "K"), True), ((0, 1), ("held", "L"), True),
                ((1,), ("keyed", "K"), True), ((1,), ("keyed", "L"), True)]
        self.settled("open", keys, (1, ("keyed", "K")), ("same", (1, ("keyed", "L"))))
        self.settled("yes", [*keys, ((0, 0, 0), ("same", (0, 1, 0)), True)], (1, ("keyed", "K")), ("same", (1, ("keyed", "L"))))
        self.settled("yes", [*keys, ((0, 0, 0), ("is", 5), True), ((0, 1, 0), ("is", 5), True)], (1, ("keyed", "K")), ("same", (1, ("keyed", "L"))))

        values = [*keys, ((0, 0, 0), ("same", (0, 1, 0)), True), ((2,), ("tuple", 2), True), ((1, ("keyed", "K")), ("same", (2, 0)), True), ((1, ("keyed", "L")), ("same", (2, 1)), True)]
        self.settled("yes", values, (2, 0), ("same", (2, 1)), 3)
        self.assertEqual("subjects", answering(3, ("K", "L"), tuple(values))[0])
        self.assertEqual(("never",), answering(3, ("K", "L"), (*values, ((2, 0), ("is", 1), True), ((2, 1), ("is", 2), True))))

    def test_maps_with_the_same_told_keys_may_be_unlike(self):
        rows = [((0,), ("has", 1), True), ((1,), ("has", 1), True), ((0, ("key", 1)), ("same", (1, ("key", 1))), True)]
        self.settled("open", rows, (0,), ("same", (1,)))
        self.settled("open", [((0,), ("map",), True), ((1,), ("map",), True)], (0,), ("same", (1,)))
        self.settled("yes", [((0,), ("tuple", 0), True), ((1,), ("tuple", 0), True)], (0,), ("same", (1,)))
        self.settled("open", rows, (0,), ("has", 2))
        self.settled("yes", [*rows, ((0,), ("same", (1,)), True), ((0,), ("has", "a"), True)], (1,), ("has", "a"))

    def test_what_is_settled(self):
        self.settled("open", [], (0,), ("cons",))
        self.settled("yes", [((0,), ("cons",), True)], (0,), ("cons",))
        self.settled("no", [((0,), ("cons",), True)], (0,), ("is", ("list",)))
        self.settled("no", [((0,), ("cons",), False)], (0,), ("cons",))
        self.settled("no", [((0,), ("tuple", 2), True)], (0,), ("tuple", 1))
        self.settled("no", [((0,), ("map",), False)], (0,), ("has", 1))
        self.settled("yes", [((0,), ("keyed", "K"), True)], (0,), ("map",))
        self.settled("yes", [((0,), ("same", (1,)), True)], (1,), ("same", (0,)))
        self.settled("yes", [((0,), ("same", (0,)), False)], (1,), ("same", (0,)))
        self.settled("yes", [((0,), ("tuple", 1), True), ((1,), ("same", (0,)), True)], (1,), ("tuple", 1))
        self.settled("no", [((0,), ("held", "K"), True), ((1,), ("held", "K"), False)], (0,), ("same", (1,)))
        self.assertEqual(("subjects", (), ()), answering(0, (), ()))

    def test_shown_values(self):
        rows = (((0,), ("tuple", 1), True), ((0, 0), ("is", 1), False))
        self.assertTrue(shows_answering(1, ("K",), rows, ("subjects", (("tuple", 2),), (("K", 1),))))
        for value in (None, ("never",), ("subject", (("tuple", 2),), (("K", 1),)), ("subjects", (("tuple", 1),), (("K", 1),)), ["subjects", (("tuple", 2),), (("K", 1),)], ("subjects", [("tuple", 2)], (("K", 1),)), ("subjects", (("tuple", True),), (("K", 1),)),
                      ("subjects", (("tuple", 2),), ()), ("subjects", (("tuple", 2),)), ("subjects", (("tuple", 2), 1), (("K", 1),)), ("subjects", (5,), (("K", 1),)), ("subjects", (("tuple",),), (("K", 1),)),
                      ("subjects", (("tuple", 2),), (("L", 1),)), ("subjects", (("tuple", 2),), (("K", True),)), ("subjects", None, None)):
            self.assertFalse(shows_answering(1, ("K",), rows, value), value)
        never = (((0,), ("cons",), True), ((0,), ("map",), True))
        self.assertEqual(("never",), answering(1, (), never))
        self.assertTrue(shows_answering(1, (), never, ("never",)))
        for value in (["never"], ("never", 1), None, ("subjects", (("list", 1),), ())):
            self.assertFalse(shows_answering(1, (), never, value))

    def test_errors_in_their_sequence(self):
        calls = lambda width, known, rows: (lambda: answering(width, known, rows), lambda: shows_answering(width, known, rows, None), lambda: settled(width, known, rows, None, None))
        for width in (-1, 5, True, None, "1"):
            for call in calls(width, None, None):
                with self.assertRaises(BadWidth) as caught:
                    call()
                self.assertIs(width, caught.exception.value)
        for known in (None, ["K"], ("L", "K"), ("K", "K"), ("k",), (1,)):
            for call in calls(1, known, None):
                with self.assertRaises(BadNames) as caught:
                    call()
                self.assertIs(known, caught.exception.value)
        row = ((0,), ("cons",), True)
        for rows in (None, [row], (row,) * 61, row[0][0]):
            for call in calls(1, (), rows):
                with self.assertRaises(BadAnswers) as caught:
                    call()
                self.assertIsNone(caught.exception.value)
        self.assertEqual("subjects", answering(4, (), (row,) * 60)[0])

    def test_wrong_answers(self):
        good = (((0,), ("tuple", 2), True), ((0, 1), ("cons",), False), ((0, 0), ("has", "a"), True), ((0, 0), ("keyed", "K"), False), ((0, 0, ("key", "a")), ("cons",), True))
        self.assertEqual("subjects", answering(1, ("K",), good)[0])
        q = ("map",)
        for row in (None, [], list(good[0]), good[0][:2], (*good[0], 1), ((0,), q, 1), ((0,), q, None), ((1,), q, True), ((), q, True), ([0], q, True), ((False,), q, True), ((0, 2), q, True), ((0, -1), q, True),
                    ((0, True), q, True), ((0, 1, "first"), q, True), ((0, "first"), q, True), ((0, 0, ("key", "b")), q, True), ((0, 0, ("keyed", "K")), q, True), ((0, 0, ["key", "a"]), q, True), ((0, 0, ("key", "a"), 0), q, True),
                    ((0, 0, ("key", "a"), "second"), q, True), ((0,), None, True), ((0,), ["map"], True), ((0,), (), True), ((0,), ("map", 1), True), ((0,), ("cons", 1), True), ((0,), ("is",), True), ((0,), ("is", True), True),
                    ((0,), ("is", ("tuple",)), True), ((0,), ("is", ("list", 1)), True), ((0,), ("is", ("map",)), True), ((0,), ("is", "a b"), True), ((0,), ("is", ("pid", ())), True), ((0,), ("tuple", 101), True),
                    ((0,), ("tuple", -1), True), ((0,), ("tuple", True), True), ((0,), ("has", ("list",)), True), ((0,), ("has", True), True), ((0,), ("has", ("bytes", 1)), True), ((0,), ("keyed", "L"), True), ((0,), ("keyed", 1), True),
                    ((0,), ("same", (0, 2)), True), ((0,), ("same", (1,)), True), ((0,), ("same", [0]), True), ((0,), ("same", 0), True), ((0,), ("held", "L"), True), ((0,), ("held",), True), ((0,), ("other",), True), ((0,), ("other", "K"), True), ((0,), (1,), True), ((0,), (["map"],), True),
                    ((0,), ("is", 1, 2), True), (("0",), q, True), (0, q, True), ((0, None), q, True)):
            with self.assertRaises(BadAnswers, msg=row) as caught:
                answering(1, ("K",), (*good, row, None))
            self.assertEqual(5, caught.exception.value, row)
            if isinstance(row, tuple) and len(row) == 3 and isinstance(row[2], bool):
                with self.assertRaises(BadQuestion) as caught:
                    settled(1, ("K",), good, row[0], row[1])
                self.assertEqual(row[:2], caught.exception.value)
        for row in (((0,), ("is", ("bytes", 1)), True), ((0,), ("is", ("list",)), True), ((0,), ("is", -5), True), ((0,), ("tuple", 100), True), ((0,), ("has", -5), False), ((0,), ("same", (0, 1)), False), ((0, 0, ("key", "a"), "rest"), q, True)):
            answering(1, ("K",), (*good, row))
        # A place is there only behind an answer True, ahead.
        for ahead in ((((0,), ("tuple", 2), False),), (), (((0,), ("cons",), True),)):
            with self.assertRaises(BadAnswers) as caught:
                answering(1, (), (*ahead, ((0, 0), q, True), ((0,), ("tuple", 2), True)))
            self.assertEqual(len(ahead), caught.exception.value)


if __name__ == "__main__":
    unittest.main()
