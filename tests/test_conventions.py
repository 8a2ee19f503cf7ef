"""Section 2: what holds of all functions: they change nothing, and tell the same when they are called again."""

import copy
import unittest

from arrivalmill.built import built
from arrivalmill.errors import MillError
from arrivalmill.exits import acts, clerk, come, ended
from arrivalmill.looker import is_sound, look_over
from arrivalmill.plain import held, lets, worth
from arrivalmill.printing import show_expression, show_module, show_pattern
from arrivalmill.reading import Module, read_expression
from arrivalmill.scopes import bound_behind, held_names
from arrivalmill.terms import (
    compare_terms, inner_terms, is_term, key_of, kind_of, prepended, rest_of, sort_terms, with_key, without_key,
)
from arrivalmill.termtext import read_term, term_text
from arrivalmill.ties import begun, born, tie, trap, untie
from arrivalmill.watches import unwatch, watch

P, Q, A = ("pid", ()), ("pid", (1,)), ("ref", (), 1)
KEEPS = (Q, False, ((P, (True, 1, 2)),), ((A, P, P),), ((("ref", (), 5), P),))
CHART = ("map", (1, "a"), ("b", ("list", 1, 2)))
MODULE = Module("-module(m). -export([f/1]). f(X) -> [Y || Y <- X, Y > 1]. g(Z) -> Q.")
SOUND = Module("-module(m). -export([f/1]). f(X) -> [Y || Y <- X, Y > 1], make_ref().")
FORM = read_expression("fun (X) when X > 1 -> {X, Y = Z} end")
PATTERN = ("tuple", (("name", "X"), ("any",)))
CALLS = (
    (is_term, CHART), (is_term, [1, {"a": []}]), (kind_of, CHART), (kind_of, [1]), (compare_terms, CHART, 1), (compare_terms, [1], {}),
    (sort_terms, (2, 1, CHART)), (sort_terms, [2, 1]), (prepended, 1, CHART), (prepended, 1, []), (rest_of, ("list", 1)), (rest_of, 1),
    (with_key, CHART, 1, 2), (with_key, [], 1, 2), (key_of, CHART, 1), (key_of, CHART, 5), (without_key, CHART, 1), (inner_terms, ("list", P, A)),
    (term_text, CHART), (term_text, {"a": 1}), (read_term, "#{1=>2}"), (read_term, "[1"), (read_expression, "f(X)"), (read_expression, "f(_)"),
    (Module, "-module(m). f() -> 1."), (Module, "-module(m). f() -> 1; g() -> 2."), (show_module, MODULE), (show_expression, FORM),
    (show_pattern, PATTERN), (held_names, FORM, ("X", "Y", "Z")), (bound_behind, FORM, ("X",)), (look_over, MODULE), (is_sound, MODULE),
    (built, "+", (1, 2)), (built, "hd", [1]), (built, ["+"], (1, 2)), (held, PATTERN, ("tuple", 1, 2), (("A", 1),)), (held, PATTERN, 1, [("A", 1)]),
    (lets, (), ()), (lets, [], ()), (worth, (SOUND,), "m", "f", (("list", 1, 2),)), (worth, [SOUND], "m", "f", ()), (worth, (SOUND,), "m", "g", ()),
    (born, Q, P, "watched", A), (begun, KEEPS, Q, "tied", None), (tie, KEEPS, P), (untie, KEEPS, P), (trap, KEEPS, True),
    (watch, KEEPS, ("ref", (), 3), "a", P), (unwatch, KEEPS, A), (acts, False, Q, P, "a", True), (come, KEEPS, P, ("untie",)),
    (come, KEEPS, P, ["untie"]), (come, KEEPS, P, ("notice", A, "a")), (ended, KEEPS, "a"), (clerk, KEEPS, P, ("tie", 1)),
)


def told(function, arguments):
    """What a call tells: what it returns, or which error it raises, with its value."""
    try:
        return ("returns", function(*arguments))
    except MillError as error:
        return ("raises", type(error), error.value)


class Conventions(unittest.TestCase):
    def test_calls_made_twice_tell_the_same(self):
        first = [told(function, arguments) for function, *arguments in CALLS]
        again = [told(function, arguments) for function, *arguments in CALLS]
        self.assertEqual(first, again)
        self.assertTrue({"returns", "raises"} == {row[0] for row in first})

    def test_no_argument_is_changed(self):
        for function, *arguments in CALLS:
            kept = copy.deepcopy(arguments)
            told(function, arguments)
            self.assertEqual(kept, arguments, function)

    def test_returned_sequences_are_tuples(self):
        for row in [told(function, arguments) for function, *arguments in CALLS]:
            if row[0] == "returns":
                self.assertTrue(has_no_list(row[1]), row)

    def test_true_is_not_one_and_lists_are_no_tuples(self):
        for value in (True, False, [1], ["list"], ("list", True), ("list", [1]), ("tuple", ("tuple", ("list", False))), ("map", (1, [2]))):
            self.assertFalse(is_term(value))
        self.assertFalse(("f", True) in MODULE)
        self.assertFalse(["f", 1] in MODULE)


def has_no_list(value):
    if isinstance(value, tuple):
        return all(has_no_list(part) for part in value)
    return not isinstance(value, (list, dict, set))


if __name__ == "__main__":
    unittest.main()
