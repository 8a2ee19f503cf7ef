"""Section 10: ties, watches, exits."""

import itertools
import unittest

from arrivalmill.errors import BadSignal, BadTerm
from arrivalmill.exits import acts, clerk, come, ended
from arrivalmill.reading import Module
from arrivalmill.ties import begun, born, tie, trap, untie
from arrivalmill.watches import unwatch, watch
from tests.values import NO_TERMS

P, Q, R, S = ("pid", ()), ("pid", (1,)), ("pid", (2,)), ("pid", (1, 1))
A, B, C = ("ref", (), 1), ("ref", (), 2), ("ref", (1,), 1)
MODULE = Module("-module(m).")
FRESH = (Q, False, (), (), ())


class Case(unittest.TestCase):
    def raises(self, kind, value, call, *arguments):
        with self.assertRaises(kind) as caught:
            call(*arguments)
        self.assertIs(value, caught.exception.value)


class Deeds(Case):
    def test_born(self):
        self.assertEqual(FRESH, born(Q, P, "alone", None))
        self.assertEqual((Q, False, ((P, (True, 0, 0)),), (), ()), born(Q, P, "tied", None))
        self.assertEqual((Q, False, (), (), ((A, P),)), born(own=Q, parent=P, how="watched", reference=A))

    def test_begun(self):
        keeps = born(P, S, "alone", None)
        self.assertEqual(keeps, begun(keeps, Q, "alone", None))
        self.assertEqual((P, False, ((Q, (True, 0, 0)),), (), ()), begun(keeps, Q, "tied", None))
        self.assertEqual((P, False, (), ((A, Q, Q),), ()), begun(keeps=keeps, child=Q, how="watched", reference=A))
        twice = begun(begun(begun(keeps, R, "tied", None), Q, "tied", None), S, "watched", B)
        self.assertEqual(((Q, (True, 0, 0)), (R, (True, 0, 0))), twice[2])
        self.assertEqual(((A, Q, Q), (B, S, S)), begun(twice, Q, "watched", A)[3])

    def test_tie(self):
        one, sent = tie(FRESH, P)
        self.assertEqual((Q, False, ((P, (True, 0, 0)),), (), ()), one)
        self.assertEqual(((P, ("tie", 0)),), sent)
        self.assertEqual((one, ()), tie(one, P))
        self.assertEqual((FRESH, ()), tie(FRESH, Q))
        two = come(come(one, P, ("untie",))[0], P, ("untie",))[0]
        self.assertEqual((((P, (True, 0, 2)),), ((P, ("tie", 2)),)), (tie(two, P)[0][2], tie(two, P)[1]))

    def test_untie(self):
        self.assertEqual((FRESH, ()), untie(FRESH, Q))
        one, sent = untie(FRESH, P)
        self.assertEqual((((P, (False, 1, 0)),), ((P, ("untie",)),)), (one[2], sent))
        two, sent = untie(one, P)
        self.assertEqual((((P, (False, 2, 0)),), ((P, ("untie",)),)), (two[2], sent))
        three = untie(born(Q, P, "tied", None), P)
        self.assertEqual(one[2], three[0][2])
        self.assertEqual((((P, (True, 1, 0)),), ((P, ("tie", 0)),)), (tie(one, P)[0][2], tie(one, P)[1]))

    def test_trap(self):
        keeps = born(Q, P, "tied", None)
        self.assertEqual((Q, True, keeps[2], (), ()), trap(keeps, True))
        self.assertEqual(keeps, trap(trap(keeps, True), False))
        self.assertIs(True, trap(keeps=keeps, now=True)[1])

    def test_watch(self):
        one, sent = watch(FRESH, C, P, P)
        self.assertEqual(((Q, False, (), ((C, P, P),), ()), ((P, ("watch", C)),)), (one, sent))
        two, sent = watch(one, B, "name", R)
        self.assertEqual((((B, "name", R), (C, P, P)), ((R, ("watch", B)),)), (two[3], sent))
        three, sent = watch(two, A, "nobody", None)
        self.assertEqual((((A, "nobody", None), (B, "name", R), (C, P, P)), ()), (three[3], sent))
        self.assertEqual((FRESH, ()), watch(FRESH, A, Q, Q))
        self.assertEqual((FRESH, ()), watch(FRESH, A, "name", Q))

    def test_unwatch(self):
        keeps = watch(watch(watch(FRESH, A, P, P)[0], B, "name", R)[0], C, "nobody", None)[0]
        self.assertEqual((((B, "name", R), (C, "nobody", None)), ((P, ("unwatch", A)),)),
                         (unwatch(keeps, A)[0][3], unwatch(keeps, A)[1]))
        self.assertEqual(((R, ("unwatch", B)),), unwatch(keeps=keeps, reference=B)[1])
        self.assertEqual((((A, P, P), (B, "name", R)), ()), (unwatch(keeps, C)[0][3], unwatch(keeps, C)[1]))
        self.assertEqual((keeps, ()), unwatch(keeps, ("ref", (), 9)))
        self.assertEqual((FRESH, ()), unwatch(FRESH, A))

    def test_errors(self):
        for value in (*NO_TERMS, 1, "a", A, ("list",), ("tuple", P), MODULE, (P,), ["pid", ()]):
            for call, arguments in ((born, (value, P, "alone", None)), (born, (value, None, "tied", None)), (born, (Q, value, "tied", None)), (begun, (FRESH, value, "alone", None)),
                                    (tie, (FRESH, value)), (untie, (FRESH, value))):
                self.raises(BadTerm, value, call, *arguments)
            if value is not None:
                self.raises(BadTerm, value, watch, FRESH, A, P, value)
            if value not in ("a",) or not isinstance(value, str):
                self.raises(BadTerm, value, watch, FRESH, A, value, P)
        for value in (*NO_TERMS, 1, "a", P, ("list",), ("tuple", A), MODULE):
            for call, arguments in ((born, (Q, P, "watched", value)), (begun, (FRESH, P, "watched", value)), (watch, (FRESH, value, None, None)),
                                    (unwatch, (FRESH, value))):
                self.raises(BadTerm, value, call, *arguments)


class Comings(Case):
    def test_acts_row_by_row(self):
        letter = ("letter", ("tuple", "EXIT", P, "kill"))
        for traps, sender, reason, is_tie, told in (
                (False, P, "kill", False, ("ends", "killed")), (True, P, "kill", False, ("ends", "killed")), (True, Q, "kill", False, ("ends", "killed")),
                (True, P, "kill", True, letter), (False, P, "kill", True, ("ends", "kill")), (True, P, "normal", True, ("letter", ("tuple", "EXIT", P, "normal"))),
                (True, Q, "normal", False, ("letter", ("tuple", "EXIT", Q, "normal"))), (False, P, "normal", True, ("nothing",)),
                (False, P, "normal", False, ("nothing",)), (False, Q, "normal", False, ("ends", "normal")), (False, Q, "normal", True, ("nothing",)),
                (False, P, "boom", True, ("ends", "boom")), (False, P, ("tuple", "a", 1), False, ("ends", ("tuple", "a", 1))),
                (True, P, 7, False, ("letter", ("tuple", "EXIT", P, 7))), (False, Q, "killed", False, ("ends", "killed"))):
            self.assertEqual(told, acts(traps, Q, sender, reason, is_tie))
        self.assertEqual(("ends", "x"), acts(is_tie=True, reason="x", sender=P, own=Q, traps=False))

    def test_errors_of_acts(self):
        for value in NO_TERMS:
            self.raises(BadTerm, value, acts, False, value, None, None, False)
            self.raises(BadTerm, value, acts, False, Q, value, None, False)
            self.raises(BadTerm, value, acts, False, Q, P, value, False)
        self.raises(BadTerm, "names", acts, False, Q, "names", "x", False)

    def side(self, tied, sent, seen):
        side = (tied, sent, seen)
        return (Q, False, () if side == (False, 0, 0) else ((P, side),), (), ())

    def test_ties_and_unties_come(self):
        for tied, sent, seen in itertools.product((False, True), range(3), range(3)):
            keeps = self.side(tied, sent, seen)
            for number in range(4):
                want = self.side(tied if number < sent else True, sent, seen)
                self.assertEqual((want, None), come(keeps, P, ("tie", number)))
            self.assertEqual((self.side(False, sent, seen + 1), None), come(keeps, P, ("untie",)))

    def test_exits_come(self):
        for tied, sent, seen in itertools.product((False, True), range(3), range(3)):
            keeps = self.side(tied, sent, seen)
            for number in range(4):
                for reason, told in (("boom", ("ends", "boom")), ("normal", None), ("kill", ("ends", "kill"))):
                    want = (keeps, None) if number < sent or not tied else (self.side(False, sent, seen), told)
                    self.assertEqual(want, come(keeps, P, ("exit", reason, True, number)))
            for reason, told in (("boom", ("ends", "boom")), ("normal", None), ("kill", ("ends", "killed"))):
                self.assertEqual((keeps, told), come(keeps, P, ("exit", reason, False, 0)))
        trapping = trap(self.side(True, 1, 0), True)
        letter = ("letter", ("tuple", "EXIT", P, "normal"))
        self.assertEqual((trap(self.side(False, 1, 0), True), letter), come(trapping, P, ("exit", "normal", True, 1)))
        self.assertEqual((trapping, None), come(trapping, P, ("exit", "normal", True, 0)))
        self.assertEqual((trapping, ("ends", "killed")), come(trapping, P, ("exit", "kill", False, 0)))
        self.assertEqual((trapping, ("letter", ("tuple", "EXIT", R, 5))), come(trapping, R, ("exit", 5, False, 0)))
        self.assertEqual((trapping, None), come(trapping, R, ("exit", 5, True, 0)))

    def test_letters_and_watchers_come(self):
        self.assertEqual((FRESH, ("letter", ("list", 1))), come(FRESH, P, ("letter", ("list", 1))))
        one, told = come(FRESH, R, ("watch", B))
        two = come(one, P, ("watch", A))[0]
        self.assertEqual((((B, R),), None), (one[4], told))
        self.assertEqual(((A, P), (B, R)), two[4])
        self.assertEqual((one, None), come(two, P, ("unwatch", A)))
        self.assertEqual((two, None), come(two, P, ("unwatch", C)))
        self.assertEqual((FRESH, None), come(one, R, ("unwatch", B)))

    def test_notices_come(self):
        keeps = watch(watch(watch(FRESH, A, P, P)[0], B, "name", P)[0], C, "nobody", None)[0]
        told = come(keeps, P, ("notice", A, "boom"))
        self.assertEqual((((B, "name", P), (C, "nobody", None)), ("letter", ("tuple", "DOWN", A, "process", P, "boom"))), (told[0][3], told[1]))
        self.assertEqual(("letter", ("tuple", "DOWN", B, "process", "name", 1)), come(keeps, P, ("notice", B, 1))[1])
        told = come(keeps=keeps, sender="names", signal=("notice", C, "noproc"))
        self.assertEqual((((A, P, P), (B, "name", P)), ("letter", ("tuple", "DOWN", C, "process", "nobody", "noproc"))), (told[0][3], told[1]))
        self.assertEqual((told[0], None), come(told[0], "names", ("notice", C, "noproc")))
        self.assertEqual((FRESH, None), come(FRESH, P, ("notice", A, "boom")))

    def test_ended(self):
        keeps = FRESH
        for other in (S, R, P):
            keeps = tie(keeps, other)[0]
        keeps = come(keeps, R, ("untie",))[0]
        keeps = come(tie(come(keeps, P, ("untie",))[0], P)[0], S, ("watch", C))[0]
        keeps = come(come(keeps, P, ("watch", A))[0], R, ("watch", B))[0]
        keeps = watch(keeps, ("ref", (1,), 7), R, R)[0]
        self.assertEqual(((P, ("exit", "x", True, 1)), (S, ("exit", "x", True, 0)), (P, ("notice", A, "x")), (R, ("notice", B, "x")), (S, ("notice", C, "x"))),
                         ended(keeps, "x"))
        self.assertEqual((), ended(keeps=FRESH, reason=("list",)))
        for value in NO_TERMS:
            self.raises(BadTerm, value, ended, FRESH, value)

    def test_clerk(self):
        for tied, sent, seen in itertools.product((False, True), range(3), range(3)):
            keeps = self.side(tied, sent, seen)
            for number in range(4):
                want = () if number < sent else ((P, ("exit", "noproc", True, seen)),)
                self.assertEqual((keeps, want), clerk(keeps, P, ("tie", number)))
            self.assertEqual((self.side(tied, sent, seen + 1), ()), clerk(keeps, P, ("untie",)))
        keeps = watch(self.side(True, 0, 0), A, P, P)[0]
        self.assertEqual((keeps, ((P, ("notice", C, "noproc")),)), clerk(keeps, P, ("watch", C)))
        for signal in (("letter", 1), ("exit", "a", True, 0), ("exit", "a", False, 0), ("unwatch", A), ("notice", A, 1)):
            self.assertEqual((keeps, ()), clerk(keeps, P, signal))
        self.assertEqual((keeps, ()), clerk(keeps=keeps, sender="names", signal=("notice", A, "noproc")))

    def test_bad_signals(self):
        for value in (
                1, None, True, "untie", (), [], {}, MODULE, ["untie"], ("untie", 1), ("untie", ()), ("letter",), ("letter", None), ("letter", True),
                ("letter", 1, 2), ("letter", []), ("tie",), ("tie", -1), ("tie", True), ("tie", "a"), ("tie", None), ("tie", 0, 0), ("exit",),
                ("exit", "a"), ("exit", "a", True), ("exit", "a", True, -1), ("exit", "a", True, True), ("exit", "a", 1, 0), ("exit", "a", 0, 0),
                ("exit", "a", False, 1), ("exit", "a", False, False), ("exit", None, True, 0), ("exit", True, False, 0), ("exit", "a", None, 0),
                ("exit", "a", True, 0, 0), ("exit", "a", "true", 0), ("watch",), ("watch", P), ("watch", 1), ("watch", A, A), ("watch", ("ref", (), 0)),
                ("unwatch",), ("unwatch", "a"), ("unwatch", None), ("notice", A), ("notice", A, None), ("notice", P, "a"), ("notice", "a", "a"),
                ("notice", A, "a", 1), ("over", 1), ("Letter", 1), (("letter", 1),), (1, 2), (None,), ("exit", "a", True, 0.0)):
            self.raises(BadSignal, value, come, FRESH, P, value)
            self.raises(BadSignal, value, clerk, FRESH, P, value)
            self.raises(BadSignal, value, come, FRESH, "names", value)
        for value in (("letter", 1), ("tie", 0), ("untie",), ("exit", "a", False, 0), ("watch", A)):
            self.raises(BadSignal, value, come, FRESH, "names", value)
            self.raises(BadSignal, value, clerk, FRESH, "names", value)

    def test_bad_senders(self):
        for value in (*NO_TERMS, 1, "clock", "name", A, ("list",), MODULE):
            self.raises(BadTerm, value, come, FRESH, value, ("untie",))
            self.raises(BadTerm, value, clerk, FRESH, value, None)

    def test_the_worked_example(self):
        one, two = P, Q
        keeps, sent = untie(born(two, one, "tied", None), one)
        self.assertEqual([((("pid", ()), (False, 1, 0)),), ((("pid", ()), ("untie",)),), None, ((("pid", ()), ("tie", 0)),)],
                         [keeps[2], sent, come(keeps, one, ("exit", "boom", True, 0))[1], tie(keeps, one)[1]])
        self.assertEqual([("ends", "killed"), ("nothing",), ((("pid", ()), ("exit", "boom", True, 0)),)],
                         [acts(True, two, one, "kill", False), acts(False, two, one, "normal", True), ended(born(two, one, "tied", None), "boom")])


if __name__ == "__main__":
    unittest.main()
