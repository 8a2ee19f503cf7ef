"""Sections 2 and 23: errors, and what holds of all functions."""

import inspect
import os
import re
import unittest

import arrivalmill.errors as errors
from arrivalmill.errors import BadMap, BadTerm, MillError
from arrivalmill.reading import Module
from arrivalmill.terms import compare_terms, with_key

DOC = os.path.join(os.path.dirname(os.path.dirname(os.path.abspath(__file__))), "..", "shared", "DOC.md")
NAMES = (
    "BadTerm, BadTerms, NoPart, BadMap, NoKey, BadTermText, BadText, BadForm, NoFunction, BadBuilt, BadPattern, BadGuard, "
    "BadNames, BadBook, Undefined, BadSignal, BadWeb, BadFalls, BadBox, NoLetter, BadComings, BadTime, Held, BadModules, "
    "Unsound, BadStart, BadWeaving, NoProcess, BadPath, BadSignals, BadAnswers, BadRecord, NotRun, NotSame, Endless, "
    "NoRace, BadNumber, TooMany, BadWish, BadHeads, BadSubjects, BadHeld, BadNumbers, BadWidth, BadQuestion, BadTree, "
    "BadCode, NoRow, Tangled, NoRoom, BadWay, Unsure, BadCodes, Astray, BadRoom, BadWord, Gone, BadCell, BadRow, "
    "BadTable, BadLetters, BadPlan, BadName, BadModule, Stuck, Many, BadStep, TooFar, NoMark, BadJournal").split(", ")

PARAMETERS = {
    "terms": {"is_term": "value", "kind_of": "term", "compare_terms": "one other", "sort_terms": "terms",
              "prepended": "first rest", "rest_of": "term", "with_key": "chart key value", "key_of": "chart key",
              "without_key": "chart key", "inner_terms": "term"},
    "termtext": {"term_text": "term", "read_term": "text"},
    "reading": {"read_expression": "text"},
    "printing": {"show_module": "module", "show_expression": "form", "show_pattern": "form"},
    "scopes": {"held_names": "form bound", "bound_behind": "form bound"},
    "looker": {"look_over": "module", "is_sound": "module"},
    "built": {"built": "word terms"},
    "plain": {"held": "pattern term names", "lets": "guard names", "worth": "modules module function terms"},
    "ties": {"born": "own parent how reference", "begun": "keeps child how reference", "tie": "keeps other",
             "untie": "keeps other", "trap": "keeps now"},
    "watches": {"watch": "keeps reference what to", "unwatch": "keeps reference"},
    "exits": {"acts": "traps own sender reason is_tie", "come": "keeps sender signal", "ended": "keeps reason",
              "clerk": "keeps sender signal"},
}


class Errors(unittest.TestCase):
    def test_all_stand_directly_below_mill_error(self):
        self.assertEqual((ValueError,), MillError.__bases__)
        for name in NAMES:
            self.assertEqual((MillError,), getattr(errors, name).__bases__, name)
        told = [word for word, one in vars(errors).items() if isinstance(one, type)]
        self.assertEqual(sorted([*NAMES, "MillError"]), sorted(told))

    def test_they_keep_any_value(self):
        for value in (1, True, None, "", "a b", (), (1, [2]), [], {"a": 1}, Module("-module(m).")):
            for name in [*NAMES, "MillError"]:
                self.assertIs(value, getattr(errors, name)(value).value)

    def test_they_are_value_errors(self):
        for name in NAMES:
            with self.assertRaises(ValueError):
                raise getattr(errors, name)(7)


class Interface(unittest.TestCase):
    def test_functions_are_defined_where_they_are_listed_with_their_parameters(self):
        for file, functions in PARAMETERS.items():
            module = __import__("arrivalmill." + file, fromlist=["x"])
            for name, parameters in functions.items():
                function = getattr(module, name)
                self.assertEqual(module.__name__, function.__module__)
                self.assertEqual(parameters.split(), list(inspect.signature(function).parameters), name)

    def test_module_is_a_class_of_reading(self):
        self.assertEqual("arrivalmill.reading", Module.__module__)
        self.assertEqual(["self", "text"], list(inspect.signature(Module.__init__).parameters))
        self.assertEqual(["self", "name", "many"], list(inspect.signature(Module.clauses).parameters))
        for word in ("__init__", "__eq__", "__len__", "__contains__", "clauses"):
            self.assertIn(word, vars(Module))

    def test_arguments_go_by_position_and_by_name(self):
        chart = ("map", ("a", 1))
        self.assertEqual(with_key(chart, "b", 2), with_key(value=2, key="b", chart=chart))
        self.assertEqual(-1, compare_terms(other=2, one=1))
        self.assertEqual("m", Module(text="-module(m).").name)

    def test_the_first_error_of_several_is_raised(self):
        for call, kind, value in (
                (lambda: compare_terms(True, None), BadTerm, True), (lambda: compare_terms(1, None), BadTerm, None),
                (lambda: with_key(1, True, None), BadMap, 1), (lambda: with_key(("map",), True, None), BadTerm, True),
                (lambda: with_key(("map",), 1, None), BadTerm, None)):
            with self.assertRaises(kind) as caught:
                call()
            self.assertIs(value, caught.exception.value)

    def test_the_document_names_the_same_errors(self):
        if not os.path.exists(DOC):
            self.skipTest("the document is not here")
        with open(DOC, encoding="utf-8") as file:
            text = file.read()
        line = re.search(r"- arrivalmill/errors.py: (.*)\.\n", text).group(1)
        self.assertEqual(["MillError", *NAMES], line.split(", "))


if __name__ == "__main__":
    unittest.main()
