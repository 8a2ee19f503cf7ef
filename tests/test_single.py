"""Section 12: what heard tells of a process is enough to go along with it alone (and section 3, a)."""

import random
import unittest

from arrivalmill.errors import BadAnswers, BadBook, BadPath, BadSignals, BadStart
from arrivalmill.reading import Module
from arrivalmill.single import alone
from arrivalmill.weavings import heard, story
from tests.systems import ALONE, MANY, TICK, beginning, led, one, walked, world_of

P, Q, C = ("pid", ()), ("pid", (7,)), ("pid", (1,))
A = ("ref", (), 1)


def module(body, more=""):
    return Module("-module(m). -export([f/1, g/0]). f(X) -> " + body + ". g() -> 1. " + more)


def run(body, signals=(), answers=(1,), argument=0, path=()):
    return alone((module(body),), path, ("m", "f", (argument,)), signals, answers)


class Alone(unittest.TestCase):
    def test_it_goes_as_the_process_went(self):
        rng = random.Random(11)
        for told in (MANY, ALONE):
            for _ in range(60):
                weaving = walked(told, rng, 140)
                world = world_of(told, weaving)
                for path in world.doers:
                    start = told.start if path == () else beginning(world, path)
                    if start is None:
                        continue
                    signals, answers = heard(told, weaving, path)
                    looks, end = alone(told.modules, path, start, signals, answers)
                    done = story(told, weaving, path)
                    self.assertEqual(done, looks[:len(done)])
                    if world.doers[path].ended:
                        self.assertEqual((done, ("ended", done[-1][1])), (looks, end))
                    elif world.doers[path].there is None:
                        self.assertEqual((done, ("waits", world.doers[path].box)), (looks, end))

    def test_whatever_weaving(self):
        # What a process heard makes its story by itself: two weavings in which it heard the same, it did the same.
        rng = random.Random(12)
        seen = {}
        for _ in range(150):
            weaving = walked(MANY, rng, 60)
            for path, doer in world_of(MANY, weaving).doers.items():
                key = (path, doer.heard, doer.answers, len(doer.story))
                self.assertEqual(doer.story, seen.setdefault(key, doer.story))

    def test_ends(self):
        first = ("full", "m", "f", 1, 1)
        self.assertEqual(((first, ("end", "normal")), ("ended", "normal")), run("X"))
        self.assertEqual(((), ("asks", "full")), run("X", (), ()))
        self.assertEqual(((("full", "m", "f", 1, 0), ("end", ("tuple", "undef", ("list",)))), ("ended", ("tuple", "undef", ("list",)))), run("X", (), (0,)))
        self.assertEqual(((first,), ("waits", ("b", 5))), run("receive a -> 1 end", ((Q[1], ("letter", "b"), 0), ("clock", ("letter", 5), 1))))
        for call, word in (("whereis(a)", "who"), ("monotonic_time()", "clock"), ("register(a, self())", "give"), ("unregister(a)", "free"),
                           ("a ! b", "send"), ("monitor(process, a)", "watch"), ("cancel_timer(make_ref())", "cancel"), ("m:g()", "full"),
                           ("load(m, 1)", "load"), ("purge(m)", "purge"), ("soft_purge(m)", "soft"), ("delete(m)", "delete")):
            self.assertEqual(((first,), ("asks", word)), run(call), call)
        self.assertEqual(((first, ("timer", A, "send", 3, P, "a"), ("wait", 2)), ("waits", ())), run("send_after(3, self(), a), receive z -> 1 after 2 -> 1 end"))
        looks, end = alone((module("X ! X, f(X)"),), (3,), ("m", "f", (Q,)), (), (1,))
        self.assertEqual((400, ("long",), ("send", Q, Q)), (len(looks), end, looks[-1]))

    def test_answers_are_what_calls_come_to(self):
        body = ("exit([whereis(a), monotonic_time(), catch register(a, X), catch unregister(a), a ! b, cancel_timer(make_ref()), cancel_timer(make_ref()), "
                "load(m, 1), purge(m), soft_purge(m), delete(m), m:g(), catch (n ! b), catch m:g()])")
        bad = ("tuple", "EXIT", ("tuple", "badarg", ("list",)))
        answers = (1, "undefined", 7, True, False, Q, None, 4, "x", "y", "z", ("list",), 1, None, 0)
        looks, end = run(body, (), answers, P)
        undef = ("tuple", "EXIT", ("tuple", "undef", ("list",)))
        self.assertEqual(("ended", ("list", "undefined", 7, True, bad, "b", "false", 4, "x", "y", "z", ("list",), 1, bad, undef)),
                         ("ended", tuple(True if at == 3 else part for at, part in enumerate(end[1]))))
        self.assertEqual("true", end[1][3])
        self.assertEqual(("send", "n", None, "b"), looks[-3])

    def test_signals(self):
        sender = Q[1]
        body = "process_flag(trap_exit, true), link(X), R = monitor(process, X), W = receive {'DOWN', R, _, _, V} -> V after 5 -> exit(over) end, receive Y -> exit({W, Y}) end"
        start = (("full", "m", "f", 1, 1), ("trap", True, False), ("tie", Q), ("watch", A, Q, Q), ("wait", 5))
        signals = ((sender, ("exit", "a", True, 0), 4), (sender, ("notice", A, "b"), 5))
        looks, end = run(body, signals, (1,), Q)
        self.assertEqual((*start, ("receive", ("tuple", "DOWN", A, "process", Q, "b")), ("receive", ("tuple", "EXIT", Q, "a"))), looks[:7])
        self.assertEqual(("ended", ("tuple", "b", ("tuple", "EXIT", Q, "a"))), end)
        self.assertEqual((*start, ("over",), ("end", "over")), run(body, (("clock", ("over", 0), 5),), (1,), Q)[0])
        self.assertEqual((start, ("waits", ())), run(body, (("clock", ("over", 1), 5), (sender, ("untie",), 5)), (1,), Q))
        self.assertEqual(("ended", "killed"), run(body, (("code", ("exit", "kill", False, 0), 3),), (1,), Q)[1])
        self.assertEqual((*start[:3], ("end", "killed")), run(body, ((sender, ("exit", "kill", False, 0), 3),), (1,), Q)[0])
        self.assertEqual(((), ("asks", "full")), run("1", ((sender, ("letter", 1), 0),), ()))

    def test_wrong_books_paths_starts(self):
        good = module("X")
        for value in (None, (), [good], (good, good), (good, 1), (Module("-module(n). f() -> X."),), (good,) * 7):
            with self.assertRaises(BadBook) as caught:
                alone(value, None, None, None, None)
            self.assertIs(value, caught.exception.value)
        for value in (None, [1], (0,), ("a",), (True,), 1):
            with self.assertRaises(BadPath) as caught:
                alone((good,), value, None, None, None)
            self.assertIs(value, caught.exception.value)
        for value in (None, ("m", "f"), ("m", "f", [1]), ["m", "f", ()], ("m", "f", (True,)), (1, "f", ()), ("m", "f", (1,) * 10), ("m", "f", (), 1)):
            with self.assertRaises(BadStart) as caught:
                alone((good,), (), value, None, None)
            self.assertIs(value, caught.exception.value)
        self.assertEqual(("asks", "full"), alone((good,), (), ("m", "f", (P, A, Q, ("fun", "m", "f", 1, 0, ()), 1, 1, 1, 1, 1)), (), ())[1])

    def wrong_signal(self, number, signals, body="receive never -> 1 end", answers=(1,), path=(2,)):
        with self.assertRaises(BadSignals) as caught:
            run(body, signals, answers, 0, path)
        self.assertEqual(number, caught.exception.value, signals)

    def test_wrong_signals(self):
        good = ((), ("letter", 1), 0)
        for value in (None, [good], 1):
            self.wrong_signal(-1, value, "X", None)
        for row in (None, list(good), good[:2], (*good, 1), ((2,), ("letter", 1), 0), ([], ("letter", 1), 0), ((), ["letter", 1], 0), ((), ("letter", True), 0),
                    ((), ("letter", 1), -1), ((), ("letter", 1), True), ((), ("letter", 1), None), ((), ("over", 0), 0), ((), ("other", 0), 0),
                    ((), ("exit", "a", False, 1), 0), ("clock", ("untie",), 0), ("clock", ("over", -1), 0), ("clock", ("over", True), 0), ("clock", ("over",), 0),
                    ("clock", ("letter", None), 0), ("clock", (), 0), ("clock", 1, 0), ("names", ("letter", 1), 0), ("names", ("notice", 1, 1), 0),
                    ("code", ("exit", "kill", True, 0), 0), ("code", ("exit", "kill", False, False), 0), ("code", ("letter", 1), 0), ("other", ("letter", 1), 0), ("other", ("exit", "kill", False, 0), 0), ("names", ("exit", "kill", False, 0), 0),
                    (None, ("letter", 1), 0), (("a",), ("letter", 1), 0), (True, ("letter", 1), 0)):
            self.wrong_signal(1, (good, row), "X", None)
        self.wrong_signal(2, (good, ((), ("letter", 1), 1), good), "X", None)
        for row in (((), ("tie", 0), 1), ("clock", ("over", 3), 1), ("names", ("notice", A, 1), 1), ((3,), ("unwatch", A), 1)):
            self.assertEqual(("waits", (1,)), run("receive never -> 1 end", (good, row), (1,), 0, (2,))[1])

    def test_signals_that_are_too_far(self):
        good = ((), ("letter", 1), 0)
        self.wrong_signal(1, (good, ((), ("letter", 1), 2)))
        self.wrong_signal(1, (good, ((), ("letter", 1), 2)), "X")
        self.wrong_signal(0, (((), ("letter", 1), 9),), "X")
        kill = ((), ("exit", "kill", False, 0), 1)
        self.wrong_signal(1, (kill, ((), ("letter", 1), 1)))
        self.wrong_signal(1, (kill, ((), ("letter", 1), 2)))
        self.assertEqual(("ended", "killed"), run("receive never -> 1 end", (kill,), (1,), 0, (2,))[1])
        # Wrong answers come ahead of signals that are too far.
        with self.assertRaises(BadAnswers) as caught:
            run("whereis(a)", (((), ("letter", 1), 9),), (1, 5), 0, (2,))
        self.assertEqual(1, caught.exception.value)

    def test_wrong_answers(self):
        for value in (None, [1], 1):
            with self.assertRaises(BadAnswers) as caught:
                run("X", (), value)
            self.assertEqual(-1, caught.exception.value)
        for call, wrong in (("whereis(a)", (None, "a", 1, True, ["pid", ()], A)), ("monotonic_time()", (-1, True, None, "1")),
                            ("register(a, self())", (1, None, "true")), ("unregister(a)", (0, "false")), ("a ! b", ("undefined", 1, A, False)),
                            ("monitor(process, a)", ("undefined", A)), ("cancel_timer(make_ref())", (0, -1, True, "false")),
                            ("m:g()", (2, -1, True, None, "1")), ("m:no()", (1, True)), ("n:g()", (1,)), ("load(m, 1)", (None, True, [1])), ("delete(m)", ((),))):
            for value in wrong:
                with self.assertRaises(BadAnswers) as caught:
                    run(call, (), (1, value, None))
                self.assertEqual(1, caught.exception.value, (call, value))
        self.assertEqual(("ended", "normal"), run("catch n:g(), catch m:no()", (), (1, 0, 0))[1])
        for value in (2, True, None):
            with self.assertRaises(BadAnswers) as caught:
                run("X", (), (value,))
            self.assertEqual(0, caught.exception.value)
        self.assertEqual(("ended", "normal"), run("X", (), (1, None, [], True))[1])

    def test_a_run_by_ticks(self):
        told = one("receive a -> 1 after 2 -> exit(monotonic_time()) end")
        weaving = led(told, (), 2)
        self.assertIn(TICK, weaving)
        signals, answers = heard(told, weaving, ())
        self.assertEqual(((1, 2), (("clock", ("over", 0), 2),)), (answers, signals))
        self.assertEqual(("ended", 2), alone(told.modules, (), told.start, signals, answers)[1])
        self.assertEqual(C, ("pid", (1,)))


if __name__ == "__main__":
    unittest.main()
