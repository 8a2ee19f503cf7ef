"""Section 10, from names on: the name book, and who ends."""

import random
import unittest

from arrivalmill.ending import may_end, shows_who_ends, who_ends
from arrivalmill.errors import BadFalls, BadTerm, BadWeb
from arrivalmill.names import freed, give, left, who

P, Q, R, S = ("pid", ()), ("pid", (1,)), ("pid", (2,)), ("pid", (3,))


class Names(unittest.TestCase):
    def test_give(self):
        book, done = give((), "b", P, True)
        self.assertEqual(((("b", P),), True), (book, done))
        self.assertEqual(((("a", Q), ("b", P)), True), give(book, "a", Q, True))
        self.assertEqual(((("b", P), ("c", Q)), True), give(book, "c", Q, True))
        for name, process, lives in (("b", Q, True), ("c", P, True), ("c", Q, False), ("undefined", Q, True)):
            self.assertEqual((book, False), give(book, name, process, lives))

    def test_freed_who_left(self):
        book = (("a", Q), ("b", P))
        self.assertEqual(((("b", P),), True), freed(book, "a"))
        self.assertEqual((book, False), freed(book, "c"))
        self.assertEqual([Q, P, None], [who(book, name) for name in ("a", "b", "c")])
        self.assertEqual((("a", Q),), left(book, P))
        self.assertEqual(book, left(book, R))

    def test_no_terms(self):
        for call in (lambda: give((), 1, P, True), lambda: freed((), ["a"]), lambda: who((), True), lambda: who((), "a b")):
            self.assertRaises(BadTerm, call)
        for value in (1, "a", ("pid", (True,)), ["pid", ()]):
            with self.assertRaises(BadTerm) as caught:
                left((), value)
            self.assertIs(value, caught.exception.value)
            self.assertRaises(BadTerm, give, (), "a", value, True)


def all_reasons(web, falls):
    """With which reasons each process ends, over all sequences of falls and of exits that come."""
    found = {process: set() for process in web[0]}
    seen = set()

    def go(ended, left_falls, flying):
        key = (frozenset(ended.items()), left_falls, flying)
        if key in seen:
            return
        seen.add(key)
        for process, reason in ended.items():
            found[process].add(reason)
        events = [(fall, True) for fall in left_falls] + [(exit_row, False) for exit_row in flying]
        for (process, reason), is_fall in events:
            falls_left = left_falls - {(process, reason)} if is_fall else left_falls
            rest = flying if is_fall else flying - {(process, reason)}
            if process in ended or (not is_fall and process in web[2]):
                go(ended, falls_left, rest)
                continue
            others = [one if other == process else other for one, other in web[1] if process in (one, other)]
            sent = frozenset((other, reason) for other in others if other not in ended)
            go({**ended, process: reason}, falls_left, rest | sent)

    go({}, frozenset(falls), frozenset())
    return found


def webs(rng, many, largest):
    for _ in range(many):
        size = rng.randint(2, largest)
        processes = tuple(sorted(("pid", tuple(rng.randint(1, 3) for _ in range(k))) for k in range(size)))
        pairs = [(one, other) for at, one in enumerate(processes) for other in processes[at + 1:]]
        ties = tuple(pair for pair in pairs if rng.random() < 0.5)
        trappers = tuple(process for process in processes if rng.random() < 0.25)
        fallen = rng.sample(processes, rng.randint(1, min(4, size)))
        falls = tuple((process, rng.choice(("a", "b", ("tuple", 1)))) for process in fallen)
        yield (processes, ties, trappers), falls


class WhoEnds(unittest.TestCase):
    LINE = ((P, Q, R, S), ((P, Q), (Q, R), (R, S)), ())

    def test_lines_and_trappers(self):
        self.assertEqual(((P, (P,)), (Q, (P, Q)), (R, (P, Q, R)), (S, (P, Q, R, S))), who_ends(self.LINE, ((P, "a"),)))
        line = (*self.LINE[:2], (R,))
        self.assertEqual(((P, (P,)), (Q, (P, Q))), who_ends(line, ((P, "a"),)))
        self.assertEqual(((Q, (R, Q)), (R, (R,)), (S, (R, S))), who_ends(line, ((R, "a"),))[1:])
        parts = ((P, Q, R, S), ((P, Q), (R, S)), ())
        self.assertEqual([R, S], [process for process, _ in who_ends(parts, ((S, "a"),))])

    def test_ways_are_shown_right(self):
        for web, falls in webs(random.Random(1), 150, 8):
            told = who_ends(web, falls)
            self.assertTrue(shows_who_ends(web, falls, told))
            self.assertEqual([process for process, reasons in may_end(web, falls) if reasons], [row[0] for row in told])

    def test_all_sequences(self):
        for web, falls in webs(random.Random(2), 120, 4):
            wanted = all_reasons(web, falls)
            told = may_end(web, falls)
            self.assertEqual(list(web[0]), [process for process, _ in told])
            for process, reasons in told:
                self.assertEqual(wanted[process], set(reasons))
                self.assertEqual(sorted(reasons, key=str), sorted(set(reasons), key=str))

    def test_reasons_ascend_as_terms(self):
        web = ((P, Q, R, S), ((P, Q), (P, R), (P, S)), ())
        falls = ((Q, ("tuple",)), (R, "a"), (S, 5))
        self.assertEqual((5, "a", ("tuple",)), may_end(web, falls)[0][1])

    def test_other_right_ways(self):
        ring = ((P, Q, R), ((P, Q), (P, R), (Q, R)), ())
        falls = ((P, "a"), (Q, "b"))
        for way in ((P, R), (Q, R), (P, Q, R), (Q, P, R)):
            self.assertTrue(shows_who_ends(ring, falls, ((P, (P,)), (Q, (P, Q)), (R, way))))
        self.assertTrue(shows_who_ends(ring, falls, ((P, (Q, P)), (Q, (Q,)), (R, (P, R)))))

    def test_wrong_values(self):
        ring = ((P, Q, R, S), ((P, Q), (P, R), (Q, R)), (Q,))
        falls = ((P, "a"),)
        right = ((P, (P,)), (R, (P, R)))
        self.assertTrue(shows_who_ends(ring, falls, right))
        for value in (None, list(right), right[:1], right[::-1], (*right, (S, (S,))), (right[0], right[0]), (),
                      (right[0], (R, (R,))), (right[0], (R, (P, Q, R))), (right[0], (R, [P, R])), (right[0], [R, (P, R)]),
                      (right[0], (R, ())), (right[0], (R, (P, R, P, R))), (right[0], (R, (P,))), (right[0], (R, (P, R), 1)),
                      (right[0], (R, (P, S, R))), (right[0], (S, (P, S))), (right[0], (R, None)), 1,
                      ((P, (P, R, P)), right[1]), (right[0], (("pid", [2]), (P, R)))):
            self.assertFalse(shows_who_ends(ring, falls, value), value)
        one, other = ((P, Q), ((P, Q),), ()), ("pid", (True,))
        self.assertFalse(shows_who_ends(one, falls, ((P, (P,)), (other, (P, Q)))))
        self.assertFalse(shows_who_ends(one, falls, ((P, (P,)), (Q, (P, other)))))

    def test_bad_webs(self):
        nine = tuple(("pid", (k,)) for k in range(1, 10))
        for web in (None, (), [], ((P, Q), ()), ((P, Q), (), (), ()), ((P,), (), ()), (nine, (), ()), ([P, Q], (), ()),
                    ((Q, P), (), ()), ((P, P), (), ()), ((P, 1), (), ()), ((P, ("pid", (0,))), (), ()), ((P, Q), ((P, R),), ()),
                    ((P, Q), ((P, P),), ()), ((P, Q), ((Q, P),), ()), ((P, Q), ((P, Q), (P, Q)), ()), ((P, Q), [(P, Q)], ()),
                    ((P, Q), ([P, Q],), ()), ((P, Q), ((P, Q, R),), ()), ((P, Q, R), ((Q, R), (P, Q)), ()), ((P, Q), (), (R,)),
                    ((P, Q), (), (Q, P)), ((P, Q), (), (P, P)), ((P, Q), (), [P]), ((P, Q), (), (1,)), ((Q, R), ((P, Q),), ()), ((P, Q), ((P, ("pid", (True,))),), ()), ((P, ("pid", (True,))), (), ())):
            for call in (lambda: who_ends(web, None), lambda: may_end(web, ()), lambda: shows_who_ends(web, None, 1)):
                with self.assertRaises(BadWeb) as caught:
                    call()
                self.assertIs(web, caught.exception.value)
        self.assertEqual(8, len(may_end((nine[:8], (), ()), ((nine[0], "a"),))))

    def test_bad_falls(self):
        web = (tuple(("pid", (k,)) for k in range(1, 6)), (), ())
        rows = tuple((process, "a") for process in web[0])
        self.assertEqual(4, len(who_ends(web, rows[:4])))
        for falls in (None, (), rows, list(rows[:2]), (rows[0], rows[0]), ((web[0][0], "normal"),), ((P, "a"),), (list(rows[0]),),
                      (rows[0][:1],), ((web[0][0], None),), ((web[0][0], "a", 1),), (1,), ((("pid", (True,)), "a"),)):
            for call in (lambda: who_ends(web, falls), lambda: may_end(web, falls), lambda: shows_who_ends(web, falls, ())):
                with self.assertRaises(BadFalls) as caught:
                    call()
                self.assertIs(falls, caught.exception.value)


if __name__ == "__main__":
    unittest.main()
