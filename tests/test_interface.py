"""Section 2 and the interface: names, arguments, values of any kind, nothing changed, equal calls equal."""

import copy
import importlib
import inspect
import random
import unittest

from arrivalmill.checked import checked
from arrivalmill.desk import Desk
from arrivalmill.errors import MillError
from arrivalmill.heaps import Heap
from arrivalmill.journals import journal
from arrivalmill.lifting import code_of
from arrivalmill.reading import Module, read_expression
from arrivalmill.rows import Code
from arrivalmill.termtext import read_term
from tests.systems import MANY, led, one, walked

INTERFACE = {
    "names": {"give": "book name process lives", "freed": "book name", "who": "book name", "left": "book process"},
    "ending": {"who_ends": "web falls", "shows_who_ends": "web falls value", "may_end": "web falls"},
    "boxes": {"Box": "letters", "taken": "box clauses names", "visit": "box comings clauses names time"},
    "timers": {"Clock": ""},
    "weavings": {"System": "modules start", "next_steps": "system weaving", "story": "system weaving path", "standing": "system weaving", "on_way": "system weaving", "heard": "system weaving path"},
    "single": {"alone": "modules path start signals answers"},
    "records": {"record": "system weaving", "same_run": "system one other", "led_over": "system one other", "shows_led_over": "system one other value"},
    "judging": {"judged": "system record", "shows_judged": "system record value", "stories": "system record"},
    "races": {"went_on": "system weaving", "races": "system weaving", "turned_at": "system weaving race", "race_parts": "system weaving race"},
    "allruns": {"all_tellings": "system ticks most", "shows_all_tellings": "system ticks most value", "can": "system wish ticks most", "shows_can": "system wish ticks most value",
                "surely": "system wish ticks most", "shows_surely": "system wish ticks most value", "hanging": "system ticks most", "alike": "system other path ticks most",
                "shows_alike": "system other path ticks most value"},
    "heads": {"Heads": "clauses known", "clause_taken": "heads subjects held failing", "fitting": "heads subjects held", "heads_of": "module name many"},
    "questions": {"answering": "width known answers", "shows_answering": "width known answers value", "settled": "width known answers place question"},
    "rows": {"Code": "text", "live": "code number", "ways": "code number", "words_wanted": "code number"}, "lifting": {"code_of": "module"},
    "checked": {"checked": "code", "shows_checked": "code value", "note_behind": "code many way", "best_table": "code"},
    "machine": {"coded_alone": "codes path start signals answers", "stand": "codes path start signals answers"}, "turns": {"by_turns": "system share hands most", "same_stories": "system one other"}, "words": {"flat_words": "term"},
    "heaps": {"Heap": "room"}, "copying": {"copied": "heap word other"}, "servers": {"texts": "", "outcome": "ref arrivals time", "served": "table state letters"}, "supervisors": {"text": "", "shape": "plan falls", "fewest_falls": "plan"},
    "editions": {"editions_of": "system weaving", "holders": "system weaving name", "places_of": "system weaving path", "square": "old new begin letters", "shows_square": "old new begin letters value"}, "desk": {"Desk": "system", "path_text": "path"}, "journals": {"journal": "desk", "read_journal": "text"},
    "trees": {"tree": "heads", "shows_tree": "heads value", "goes": "heads value subjects held failing", "reached": "heads", "shows_reached": "heads value", "untaken": "heads", "shows_untaken": "heads value"},
}
METHODS = {("boxes", "Box"): {"with_letter": "term", "without": "number", "flushed": "reference", "__len__": "", "__contains__": None, "__eq__": None},
           ("timers", "Clock"): {"with_timer": "key time to signal", "without": "key", "ticked": "", "__eq__": None},
           ("rows", "Code"): {"__len__": "", "__eq__": None}, ("heaps", "Heap"): {"make": "kind parts", "put": "term", "term": "word", "age": "word", "parts": "word", "shared": "words", "flat": "word", "ask": "words roots"},
           ("desk", "Desk"): {"__len__": "", "__eq__": None, "step": "step", "back": "many", "on": "many", "mark": "name", "to": "name", "first": "wish", "beside": "name", "copy": ""},
           ("weavings", "System"): {"__eq__": None}, ("heads", "Heads"): {"__len__": "", "__eq__": None}}

GO = ("go", ())
SMALL = one("C = spawn(m, g, [self()]), C ! a, receive X -> X after 1 -> none end", "g(P) -> receive a -> P ! b end.")
WEAVING = led(SMALL)
P, Q = ("pid", ()), ("pid", (1,))
ROOMY = Code("code m\nentry f 1 0\nlabel 0\nroom 2 1\ncell x0 x0 x0\nreturn")
ANY_VALUES = (None, True, False, 0, -1, 7, "", "a", "no term", (), [], {}, (True,), [1], {"a": 1}, ("a",), ((),), ([],), ("list", True), SMALL, MillError(1), Module("-module(m)."), ("go", ()), (GO,), (GO, GO))


def call(module, name, arguments):
    """What a call tells: what it returns, or which error it raises, with its value."""
    function = getattr(importlib.import_module("arrivalmill." + module), name)
    try:
        return ("returns", function(**arguments))
    except MillError as error:
        return ("raises", type(error).__name__, error.value)


def right_arguments():
    """For each function arguments that are right."""
    from arrivalmill.boxes import Box
    from arrivalmill.heads import Heads
    from arrivalmill.judging import judged
    from arrivalmill.races import races
    from arrivalmill.records import led_over, record
    from arrivalmill.trees import reached, tree, untaken
    from arrivalmill.weavings import heard
    told = record(SMALL, WEAVING)
    signals, answers = heard(SMALL, WEAVING, (1,))
    clauses = read_expression("receive {X, Y} -> X; Z when Z > 1 -> Z end")[1]
    heads = Heads(((((("tuple", (("name", "X"),)),), (), ()), ((("name", "K"),), ("g",), ()))), ("K",))
    web, falls = ((P, Q), ((P, Q),), ()), ((P, "a"),)
    other = led(SMALL, (GO, GO, ("go", (1,))))
    wish = ("waits", ())
    questions = (((0,), ("tuple", 1), True), ((0, 0), ("is", 1), False))
    common = {"book": (("a", P),), "name": "a", "process": Q, "lives": True, "web": web, "falls": falls, "box": Box((1, ("tuple", 1, 2))), "letters": (1, 2), "clauses": clauses, "names": (("X", 1),),
              "comings": (("letter", 5), ("over",)), "time": 3, "system": SMALL, "weaving": WEAVING, "path": (1,), "modules": SMALL.modules, "start": ("m", "g", (P,)), "signals": signals, "answers": answers,
              "one": WEAVING, "other": WEAVING, "record": told, "race": races(SMALL, WEAVING)[0], "ticks": 1, "most": 50, "wish": wish, "heads": heads, "subjects": (("tuple", 1),), "held": (("K", 1),),
              "failing": (1,), "module": Module("-module(m). f(X) -> X."), "many": 1, "width": 1, "known": ("K",), "place": (0, 0), "question": ("cons",), "value": None}
    special = {"System": {"start": ("m", "f", ())}, "shows_who_ends": {"value": call("ending", "who_ends", {"web": web, "falls": falls})[1]}, "Heads": {"clauses": heads.cases},
               "alone": {}, "led_over": {"other": WEAVING}, "shows_led_over": {"value": led_over(SMALL, WEAVING, WEAVING)}, "shows_judged": {"value": judged(SMALL, told)}, "same_run": {"other": other},
               "heads_of": {"name": "f"}, "answering": {"answers": questions}, "shows_answering": {"answers": questions, "value": ("subjects", (("tuple", 2),), (("K", 1),))}, "settled": {"answers": questions},
               "shows_tree": {"value": tree(heads)}, "goes": {"value": tree(heads)}, "shows_reached": {"value": reached(heads)}, "shows_untaken": {"value": untaken(heads)}, "alike": {"other": SMALL},
               "shows_alike": {"other": SMALL, "value": call("allruns", "alike", {"system": SMALL, "other": SMALL, "path": (1,), "ticks": 1, "most": 50})[1]},
               "shows_all_tellings": {"value": call("allruns", "all_tellings", {"system": SMALL, "ticks": 1, "most": 50})[1]}, "shows_can": {"value": call("allruns", "can", {"system": SMALL, "wish": wish, "ticks": 1, "most": 50})[1]},
               "shows_surely": {"value": call("allruns", "surely", {"system": SMALL, "wish": wish, "ticks": 1, "most": 50})[1]}}
    code = code_of(Module("-module(m). -export([g/1]). g(P) -> receive a -> P ! b end."))
    heap = Heap(52)
    handling = Module("-module(c). -export([handle/2, change/1]). handle(L, S) -> {L, S}. change(S) -> S.")
    common.update({"text": code.text, "code": code, "number": 0, "way": (0,), "codes": (code,), "share": 3, "hands": 2, "term": ("list", 1), "room": 12, "heap": heap, "word": heap.put(("list", 1, 2)), "ref": ("ref", (), 1), "arrivals": (("tick",), 5), "table": ((1, 2, 3, 4),), "state": 1,
                   "plan": read_term("{one,1,5,[{a,always,3,{worker,m,f}}]}"), "old": handling, "new": handling, "begin": 0, "desk": Desk(SMALL)})
    special.update({"words_wanted": {"code": ROOMY, "number": 1}, "shows_checked": {"value": checked(code)}, "copied": {"other": Heap(20)}, "served": {"letters": ((1, 2),)}, "shape": {"falls": ((1, ("a",), "x"),)},
                    "square": {"letters": (1, 2)}, "shows_square": {"letters": (1, 2), "value": ("closes", (0,))}, "read_journal": {"text": journal(Desk(SMALL))}, "coded_alone": {}, "same_stories": {"other": other}})
    rows = []
    for module, functions in INTERFACE.items():
        for name, words in functions.items():
            rows.append((module, name, {word: special.get(name, {}).get(word, common[word]) for word in words.split()}))
    return rows


RIGHT = right_arguments()
# Parameters of which callers pass values of one class alone, and those whose wrong values are not specified.
FREE = {"system", "box", "heads", "module", "clauses", "book", "lives", "process", "name", "many", "code", "heap", "desk"}
# Heaps are equal to themselves alone, and what is copied changes one.
CHANGING = {"Heap", "copied"}
OBJECTS = {"alike": {"other"}, "shows_alike": {"other"}, "copied": {"other"}}
VALUE_OF = {"BadWeaving": int, "BadSignals": int, "BadAnswers": (int, type(None)), "BadHeads": (int, type(None)), "BadCode": int, "BadJournal": int, "NoRoom": int}


class Interface(unittest.TestCase):
    def test_names_and_parameters(self):
        for module, functions in INTERFACE.items():
            file = importlib.import_module("arrivalmill." + module)
            for name, words in functions.items():
                told = getattr(file, name)
                self.assertEqual("arrivalmill." + module, told.__module__)
                self.assertEqual(words.split(), [word for word in inspect.signature(told).parameters])
        for (module, name), methods in METHODS.items():
            told = getattr(importlib.import_module("arrivalmill." + module), name)
            for method, words in methods.items():
                self.assertIn(method, vars(told))
                if words is not None:
                    self.assertEqual(words.split(), list(inspect.signature(getattr(told, method)).parameters)[1:])

    def test_right_calls(self):
        for module, name, arguments in RIGHT:
            kept = copy.deepcopy({word: value for word, value in arguments.items() if isinstance(value, tuple)})
            first = call(module, name, arguments)
            self.assertEqual("returns", first[0], (name, first))
            if name in CHANGING:
                continue
            self.assertEqual(first, call(module, name, arguments))
            self.assertEqual(kept, {word: value for word, value in arguments.items() if isinstance(value, tuple)})
            by_place = getattr(importlib.import_module("arrivalmill." + module), name)(*arguments.values())
            self.assertEqual(first[1], by_place)
            if name.startswith("shows_"):
                self.assertIs(True, first[1], name)
            self.assertTrue(has_no_list(first[1]), name)

    def test_values_of_any_kind(self):
        for module, name, arguments in RIGHT:
            for word in arguments:
                if word in FREE or word in OBJECTS.get(name, ()):
                    continue
                for value in ANY_VALUES:
                    told = call(module, name, {**arguments, word: value})
                    if word == "value" and name != "goes":
                        self.assertIn(told, (("returns", True), ("returns", False)), (name, value))
                    elif told[0] == "raises":
                        kinds = VALUE_OF.get(told[1])
                        if kinds is not None:
                            self.assertIsInstance(told[2], kinds)
                            self.assertNotIsInstance(told[2], bool)
                        elif told[1] == "BadQuestion":
                            changed = {**arguments, word: value}
                            self.assertEqual((changed["place"], changed["question"]), told[2])
                        elif told[1] not in ("NotSame", "NotRun", "TooMany", "Endless", "NoRace", "NoProcess", "Unsound", "BadSubjects", "BadHeld", "Stuck"):
                            self.assertIs(value, told[2], (name, word, told))

    def test_properties(self):
        told = {"text": "code m\nentry f 1 0\nlabel 0\nreturn", "name": "m", "constants": (), "entries": (("f", 1, 0),), "exports": (), "rows": (("label", 0), ("return",))}
        self.assertEqual(told, {word: getattr(Code(told["text"]), word) for word in told})
        told = {"room": 20, "young": 0, "marked": 0, "elder": 0, "free": 20, "lessers": 0, "greaters": 0}
        self.assertEqual(told, {word: getattr(Heap(20), word) for word in told})
        told = {"system": SMALL, "steps": (), "place": 0, "weaving": (), "marks": ()}
        self.assertEqual(told, {word: getattr(Desk(SMALL), word) for word in told})

    def test_heap_alone_takes_its_last_arguments_by_name(self):
        from arrivalmill.copying import heap_alone
        parameters = inspect.signature(heap_alone).parameters
        self.assertEqual(["codes", "path", "start", "signals", "answers", "room", "always"], list(parameters))
        self.assertEqual([(inspect.Parameter.KEYWORD_ONLY, 12), (inspect.Parameter.KEYWORD_ONLY, False)], [(parameters[word].kind, parameters[word].default) for word in ("room", "always")])

    def test_results_ascend(self):
        rng = random.Random(3)
        for _ in range(5):
            weaving = walked(MANY, rng, 50)
            for module, name in (("races", "races"), ("weavings", "standing")):
                rows = call(module, name, {"system": MANY, "weaving": weaving})[1]
                self.assertEqual(sorted(rows, key=lambda row: row[0] if name == "standing" else row), list(rows))
            rows = call("records", "record", {"system": MANY, "weaving": weaving})[1][1]
            self.assertEqual(sorted(rows), list(rows))


def has_no_list(value):
    if isinstance(value, tuple):
        return all(has_no_list(part) for part in value)
    return not isinstance(value, (list, dict, set))


class OtherNames(unittest.TestCase):
    """Section 3 (e): other names, that ascend likewise, change nothing but themselves."""

    TEXT = """-module(m). -export([f/0, g/2]). f() -> Self = self(), A = spawn(m, g, [Self, 1]), _B = spawn(m, g, [A, 2]), register(aaa, A), _ = [help(X, Y) || {X, Y} <- [{A, 1}]],
              catch bbb ! hallo, aaa ! {Self, 5}, F = fun Go(Z) when Z > 0 -> Go(Z - 1); Go(Z) -> {Z, A} end, F(2), receive One when One =/= 7 -> One after 1 -> late end, whereis(aaa), whereis(bbb).
              help(X, Y) -> X ! Y. g(P, N) -> receive {P, _V} -> P ! N; Other when is_integer(Other) -> catch register(bbb, self()), P ! Other after 1 -> P ! {N} end."""
    NAMES = (("Self", "Sun"), ("_B", "_BB"), ("A", "Ab"), ("help", "herz"), ("aaa", "abc"), ("bbb", "bbc"), ("Go", "Gone"), ("One", "Ott"), ("Other", "Oz"), ("_V", "_Vw"), ("Z", "Zz"), ("X", "Xx"), ("Y", "Yy"), ("F", "Fu"), ("P", "Pp"), ("N", "Nn"))

    def other(self, value):
        table = dict(self.NAMES)
        if isinstance(value, str):
            return table.get(value, value)
        if isinstance(value, tuple):
            return tuple(self.other(part) for part in value)
        return value

    def test_runs(self):
        import re
        table = dict(self.NAMES)
        words = sorted(self.NAMES, key=lambda pair: pair[0])
        self.assertEqual([pair[1] for pair in words], sorted(pair[1] for pair in words))
        text = re.sub(r"\b_?[A-Za-z]+\b", lambda found: table.get(found.group(), found.group()), self.TEXT)
        from arrivalmill.weavings import System
        told, other = (System((Module(part),), ("m", "f", ())) for part in (self.TEXT, text))
        rng = random.Random(8)
        for _ in range(25):
            weaving = walked(told, rng, 60)
            for module, name in (("weavings", "standing"), ("weavings", "on_way"), ("weavings", "next_steps"), ("records", "record"), ("races", "races"), ("races", "went_on")):
                arguments = {"system": told, "weaving": weaving}
                self.assertEqual(self.other(call(module, name, arguments)), call(module, name, {**arguments, "system": other}), name)
            for path in ((), (1,), (2,)):
                arguments = {"system": told, "weaving": weaving, "path": path}
                first, last = call("weavings", "story", arguments), call("weavings", "story", {**arguments, "system": other})
                self.assertEqual(self.other(first), last)
        tellings = [call("allruns", "all_tellings", {"system": part, "ticks": 1, "most": 300})[1] for part in (told, other)]
        self.assertEqual({self.other(telling) for telling, _ in tellings[0]}, {telling for telling, _ in tellings[1]})

    def test_code(self):
        import re
        table = dict(self.NAMES)
        text = re.sub(r"\b_?[A-Za-z]+\b", lambda found: table.get(found.group(), found.group()), self.TEXT)
        told, other = (code_of(Module(part)) for part in (self.TEXT, text))
        self.assertEqual(self.other(told.rows), other.rows)
        for answers in ((), (1,), (1, True), (1, True, None, ("pid", (1,)))):
            looks = [call("machine", "coded_alone", {"codes": (code,), "path": (), "start": ("m", "f", ()), "signals": (), "answers": answers}) for code in (told, other)]
            self.assertEqual(self.other(looks[0]), looks[1])

    def test_heads(self):
        from arrivalmill.heads import Heads
        from arrivalmill.trees import shows_tree, tree
        cases = (((("tuple", (("name", "X"), ("name", "A"))),), (), ()), ((("map", ((("name", "P"), ("name", "X")),)),), ("g",), ()), ((("cons", ("name", "Y"), ("name", "Y")),), (), ()))
        one_heads, other = Heads(cases, ("A", "P")), Heads(self.other(cases), ("Ab", "Pp"))
        self.assertEqual(self.other(one_heads.binds), other.binds)
        self.assertTrue(shows_tree(other, self.other(tree(one_heads))))


if __name__ == "__main__":
    unittest.main()
