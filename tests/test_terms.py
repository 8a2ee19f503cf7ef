"""Section 4: terms."""

import random
import unittest

from arrivalmill.errors import BadMap, BadTerm, BadTerms, NoKey, NoPart
from arrivalmill.reading import Module
from arrivalmill.terms import (
    compare_terms, inner_terms, is_term, key_of, kind_of, prepended, rest_of, sort_terms, with_key, without_key,
)
from tests.values import ASCENDING, NIL, NO_TERMS, naive, term

KINDS = {int: "integer", str: "atom"}
WORDS = {"ref": "reference", "fun": "function", "pid": "process", "odd": "list"}
MODULE = Module("-module(m).")


def kind(one):
    return KINDS.get(type(one)) or WORDS.get(one[0], one[0])


class Case(unittest.TestCase):
    def raises(self, kind, value, call, *arguments):
        with self.assertRaises(kind) as caught:
            call(*arguments)
        told = caught.exception.value
        self.assertTrue(told is value or (told == value and type(told) is type(value)), (told, value))


class IsTerm(Case):
    def test_terms_at_their_bounds(self):
        for one in ASCENDING:
            self.assertIs(True, is_term(one), one)
            self.assertEqual(kind(one), kind_of(one))
        for one in ("a" * 16, ("pid", tuple(range(1, 41))), ("ref", tuple(range(1, 41)), 10 ** 50), ("bytes", 0, 255),
                    ("fun", "m", 0, 9, 1, (("fun", "m", "f", 0, 0, ()),)), ("odd", NIL, 1), ("odd", 1, ("bytes", 1))):
            self.assertTrue(is_term(one), one)

    def test_what_is_none(self):
        for value in (*NO_TERMS, MODULE, ("list", MODULE), (MODULE,), ("pid", MODULE)):
            self.assertIs(False, is_term(value), value)
            self.raises(BadTerm, value, kind_of, value)

    def test_deep_and_long_ones(self):
        deep = 1
        for _ in range(59):
            deep = ("tuple", deep)
        self.assertTrue(is_term(deep))
        self.assertEqual(0, compare_terms(deep, deep))
        long = ("list", *range(20000))
        self.assertTrue(is_term(long))
        self.assertEqual(-1, compare_terms(long, (*long, 1)))
        self.assertEqual(1, compare_terms((*long, 1), ("odd", *range(20000), "a")))


class Order(Case):
    def test_each_pair_both_ways_about(self):
        for at, one in enumerate(ASCENDING):
            for by, other in enumerate(ASCENDING):
                self.assertEqual((at > by) - (at < by), compare_terms(one, other), (one, other))

    def test_lists_go_by_their_rests_as_terms(self):
        self.assertEqual(-1, compare_terms(("odd", 1, 2), ("list", 1)))
        self.assertEqual(1, compare_terms(("list", 1), ("odd", 1, ("map", (1, 1)))))
        self.assertEqual(-1, compare_terms(("list", 1, 2), ("odd", 1, ("bytes",))))

    def test_by_random_as_the_words_tell(self):
        chance = random.Random(4)
        for _ in range(4000):
            one, other = term(chance, 3), term(chance, 3)
            self.assertEqual(naive(one, other), compare_terms(one, other), (one, other))
            self.assertEqual(naive(one, other) == 0, one == other)

    def test_errors(self):
        for value in NO_TERMS:
            self.raises(BadTerm, value, compare_terms, value, 1)
            self.raises(BadTerm, value, compare_terms, 1, value)
        self.raises(BadTerm, "", compare_terms, "", None)

    def test_sort_terms(self):
        chance = random.Random(5)
        shuffled = list(ASCENDING)
        chance.shuffle(shuffled)
        self.assertEqual(ASCENDING, sort_terms(tuple(shuffled)))
        self.assertEqual((1, 1, "a", "a"), sort_terms(("a", 1, "a", 1)))
        self.assertEqual((), sort_terms(()))
        for value in ([1, 2], (1, True), (None,), 1, None, "ab", {1: 2}, ((),), MODULE):
            self.raises(BadTerms, value, sort_terms, value)

    def test_the_worked_example(self):
        one, nil = ("list", 1), ("list",)
        self.assertEqual([False, True, False, False, False],
                         [is_term(True), is_term("EXIT"), is_term("a b"), is_term((1, 2)), is_term(("odd", 1, nil))])
        self.assertEqual(
            (3, "a", ("ref", (), 1), ("pid", (1,)), ("tuple",), ("map",), ("list",), ("odd", 1, 2), ("list", 1), ("bytes",)),
            sort_terms((one, nil, ("bytes",), ("tuple",), ("odd", 1, 2), "a", 3, ("pid", (1,)), ("map",), ("ref", (), 1))))


class Lists(Case):
    def test_there_and_back(self):
        for first in ASCENDING:
            for rest in ASCENDING:
                whole = prepended(first, rest)
                self.assertTrue(is_term(whole))
                self.assertEqual("list", kind_of(whole))
                self.assertEqual(rest, rest_of(whole))
                self.assertEqual(first, whole[1])

    def test_forms(self):
        self.assertEqual(("list", 1), prepended(1, NIL))
        self.assertEqual(("list", 1, 2), prepended(1, ("list", 2)))
        self.assertEqual(("odd", 1, 2), prepended(1, 2))
        self.assertEqual(("odd", 1, 2, 3), prepended(1, ("odd", 2, 3)))
        self.assertEqual(("odd", 1, ("tuple", 2)), prepended(1, ("tuple", 2)))
        self.assertEqual(NIL, rest_of(("list", NIL)))
        self.assertEqual(("odd", 2, 3), rest_of(("odd", 1, 2, 3)))
        self.assertEqual(3, rest_of(("odd", 2, 3)))

    def test_errors(self):
        self.raises(BadTerm, True, prepended, True, None)
        self.raises(BadTerm, None, prepended, 1, None)
        self.raises(BadTerm, ["list"], rest_of, ["list"])
        for one in (NIL, 1, "a", ("tuple", 1), ("map", (1, 2)), ("bytes", 1), ("pid", ()), ("ref", (), 1)):
            self.raises(NoPart, one, rest_of, one)


class Maps(Case):
    def test_keys_are_put_found_and_taken_away(self):
        chart = ("map",)
        for key in reversed(ASCENDING):
            chart = with_key(chart, key, ("tuple", key))
            self.assertTrue(is_term(chart))
        self.assertEqual(ASCENDING, tuple(key for key, _ in chart[1:]))
        for key in ASCENDING:
            self.assertEqual(("tuple", key), key_of(chart, key))
            self.assertEqual("new", key_of(with_key(chart, key, "new"), key))
            less = without_key(chart, key)
            self.assertEqual(len(chart) - 1, len(less))
            self.raises(NoKey, key, key_of, less, key)
            self.assertEqual(less, without_key(less, key))
            self.assertEqual(chart, with_key(less, key, ("tuple", key)))

    def test_errors_in_their_sequence(self):
        for value in (1, None, [], ("map", (2, 1), (1, 1)), ("list",), ("tuple", 1), {}, "map", ("map", (1, True))):
            self.raises(BadMap, value, with_key, value, None, None)
            self.raises(BadMap, value, key_of, value, None)
            self.raises(BadMap, value, without_key, value, None)
        chart = ("map", (1, 2))
        self.raises(BadTerm, True, with_key, chart, True, None)
        self.raises(BadTerm, None, with_key, chart, 1, None)
        self.raises(BadTerm, True, key_of, chart, True)
        self.raises(BadTerm, [], without_key, chart, [])
        self.raises(NoKey, 2, key_of, chart, 2)


class Inner(Case):
    def test_they_are_found_anywhere(self):
        pid, ref, own = ("pid", (1,)), ("ref", (), 3), ("fun", "m", "f", 0, 0, ())
        holds = ("fun", "m", 0, 1, 1, (pid, ("list", ref)))
        self.assertEqual((pid,), inner_terms(pid))
        self.assertEqual((ref, holds, pid), inner_terms(holds))
        self.assertEqual((pid,), inner_terms(("map", (pid, pid))))
        self.assertEqual((ref,), inner_terms(("map", (("tuple", ref), 1))))
        self.assertEqual((ref, own, pid), inner_terms(("tuple", ("odd", own, pid), ("list", ref, ref), ("odd", 1, pid))))
        for one in (1, "pid", NIL, ("bytes", 1), ("map", (1, 2)), ("odd", 1, 2)):
            self.assertEqual((), inner_terms(one))

    def test_errors(self):
        for value in NO_TERMS:
            self.raises(BadTerm, value, inner_terms, value)


if __name__ == "__main__":
    unittest.main()
