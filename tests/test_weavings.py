"""Sections 9, 10 and 12: systems, steps, and the looks that programs do."""

import random
import unittest

from arrivalmill.errors import BadModules, BadStart, BadWeaving, NoProcess, Unsound
from arrivalmill.reading import Module
from arrivalmill.weavings import System, heard, next_steps, on_way, standing, story
from tests.systems import ALL, MANY, TICK, led, one, system, walked

P, C = ("pid", ()), ("pid", (1,))
A, B = ("ref", (), 1), ("ref", (), 2)
OK = Module("-module(m). -export([f/0]). f() -> ok.")
GO = ("go", ())


def looks(told, ticks=0, path=()):
    """The looks of a process, all being done as next_steps tells it, but its first full call."""
    return story(told, led(told, (), ticks), path)[1:]


class Systems(unittest.TestCase):
    def test_what_is_kept(self):
        start = ("m", "f", (1, ("list", "a")))
        told = System((OK, OK), start)
        self.assertEqual(((OK, OK), start), (told.modules, told.start))
        self.assertEqual(told, System((OK, Module("-module(m). -export([f/0]). f()->ok. ")), start))
        self.assertFalse(told == System((OK,), start) or told == System((OK, OK), ("m", "f", (1,))) or told == start)

    def test_wrong_modules(self):
        for value in (None, (), [OK], (OK, 1), OK, (OK,) * 7, ("-module(m).",)):
            with self.assertRaises(BadModules) as caught:
                System(value, None)
            self.assertIs(value, caught.exception.value)
        System((OK,) * 6, ("m", "f", ()))
        unsound = Module("-module(n). f() -> X.")
        for modules, number in (((unsound,), 0), ((OK, OK, unsound, unsound), 2)):
            with self.assertRaises(Unsound) as caught:
                System(modules, None)
            self.assertEqual(number, caught.exception.value)

    def test_wrong_starts(self):
        for value in (None, (), ("m", "f"), ["m", "f", ()], ("m", "f", [1]), ("m", "f", (True,)), ("m", 1, ()), ("m n", "f", ()),
                      ("m", "f", (1,) * 10), ("m", "f", (P,)), ("m", "f", (("list", ("tuple", A)),)), ("m", "f", (), 1),
                      ("m", "f", (("fun", "m", "f", 0, 0, ()),)), ("m", "f", (("map", (P, 1)),))):
            with self.assertRaises(BadStart) as caught:
                System((OK,), value)
            self.assertIs(value, caught.exception.value)
        System((OK,), ("m", "f", (1,) * 9))
        System((OK,), ("x", "y", ()))


class Weavings(unittest.TestCase):
    def test_what_is_no_weaving(self):
        told = one("self() ! a, spawn(fun () -> receive a -> b end end) ! c")
        for value in (None, [GO], GO[0], 1, {}):
            with self.assertRaises(BadWeaving) as caught:
                next_steps(told, value)
            self.assertEqual(-1, caught.exception.value)
        right = (GO, GO, GO, GO, ("come", (), (1,)), TICK)
        self.assertEqual(6, len(led(told)))
        next_steps(told, right)
        for at, wrong in ((0, ("go", (1,))), (0, ("come", (), (1,))), (1, ["go", ()]), (2, ("go", (1,))), (2, ("go", [])), (3, ("go",)),
                          (3, ("go", (), 1)), (4, ("come", (1,), ())), (4, ("come", "clock", (1,))), (4, ("come", (), (True,))), (4, ()),
                          (4, ("come", (), [1])), (4, ("come", [1], ())), (4, ("come", (), (1,), 1)), (4, ("come", ())), (4, ("go", (True,))), (5, ("tick", 1)), (5, "tick"), (5, (1,)),
                          (5, ("come", None, ())), (5, ("tock",)), (0, True), (2, (["go"], ()))):
            weaving = (*right[:at], wrong, *right[at + 1:])
            for call in (lambda: next_steps(told, weaving), lambda: story(told, weaving, None), lambda: standing(told, weaving),
                         lambda: on_way(told, weaving), lambda: heard(told, weaving, 1)):
                with self.assertRaises(BadWeaving) as caught:
                    call()
                self.assertEqual(at, caught.exception.value, wrong)

    def test_no_process(self):
        told = one("spawn(fun () -> 1 end)")
        weaving = (GO, GO)
        self.assertEqual((), story(told, weaving, (1,)))
        for path in ((2,), (1, 1), None, [], "x", (True,), ("a",), (0,)):
            for call in (story, heard):
                with self.assertRaises(NoProcess) as caught:
                    call(told, weaving, path)
                self.assertIs(path, caught.exception.value)
        self.assertRaises(NoProcess, story, told, GO[:0] + (GO,), (1,))

    def test_next_steps_are_all_that_can_be_done(self):
        rng = random.Random(3)
        for told in ALL.values():
            for _ in range(6):
                weaving = walked(told, rng, rng.randint(0, 70))
                steps = next_steps(told, weaving)
                paths = [row[0] for row in standing(told, weaving)]
                senders = [*paths, (9,), "clock", "names", "code"]
                every = [("go", path) for path in [*paths, (9,)]]
                every += [("come", sender, to) for sender in senders for to in paths] + [TICK]
                can = []
                for step in every:
                    try:
                        next_steps(told, (*weaving, step))
                        can.append(step)
                    except BadWeaving as error:
                        self.assertEqual(len(weaving), error.value)
                self.assertEqual(can, list(steps))
                ready = [row[0] for row in standing(told, weaving) if row[1] == "ready"]
                self.assertEqual([step[1] for step in steps if step[0] == "go"], ready)
                self.assertEqual([step[1:] for step in steps if step[0] == "come"], [row[:2] for row in on_way(told, weaving)])
                self.assertTrue(all(row[2] for row in on_way(told, weaving)))

    def test_the_sequence_of_comes(self):
        told = one("S = self(), spawn(fun () -> S ! a end), spawn(fun () -> S ! b end), monitor(process, no), start_timer(0, S, x), "
                   "spawn(fun () -> 1 end) ! c, receive z -> 1 end")
        weaving = (GO,) * 7 + (("go", (2,)), ("go", (1,)))
        steps = next_steps(told, weaving)
        self.assertEqual((("go", (1,)), ("go", (2,)), ("go", (3,)), ("come", (), (3,)), ("come", (1,), ()), ("come", (2,), ()),
                          ("come", "clock", ()), ("come", "names", ()), TICK), steps)
        self.assertEqual((((), (3,), (("letter", "c"),)), ((1,), (), (("letter", "a"),)), ((2,), (), (("letter", "b"),)),
                          ("clock", (), (("letter", ("tuple", "timeout", B, "x")),)), ("names", (), (("notice", A, "noproc"),))),
                         on_way(told, weaving))
        self.assertEqual((((), "waits", ()), ((1,), "ready", ()), ((2,), "ready", ()), ((3,), "ready", ())), standing(told, weaving))


class Looks(unittest.TestCase):
    def test_the_first_looks_and_the_last(self):
        self.assertEqual((("full", "m", "f", 0, 1), ("end", "normal")), story(OK_SYSTEM, (GO, GO), ()))
        self.assertEqual((("full", "m", "g", 0, 0), ("end", ("tuple", "undef", ("list",)))), story(System((OK,), ("m", "g", ())), (GO, GO), ()))
        for body, reason in (("exit(a)", "a"), ("error(a)", ("tuple", "a", ("list",))), ("1 div 0", ("tuple", "badarith", ("list",))),
                             ("throw(a)", ("tuple", ("tuple", "nocatch", "a"), ("list",))), ("exit(normal)", "normal"),
                             ("n:f()", None)):
            if reason is not None:
                self.assertEqual((("end", reason),), looks(one(body)))
        self.assertEqual((("full", "n", "f", 0, 0), ("end", "undef")), looks(one("catch n:f(), try m:f(1) catch error:E -> exit(E) end"))[:1] + (("end", "undef"),))

    def test_letters(self):
        told = one("self() ! a, self() ! b, X = (self() ! c), receive b -> 1 end, receive Y -> exit({X, Y}) end")
        self.assertEqual((("send", P, "a"), ("send", P, "b"), ("send", P, "c"), ("receive", "b"), ("receive", "a"), ("end", ("tuple", "c", "a"))), looks(told))
        self.assertEqual((("end", ("tuple", "badarg", ("list",))),), looks(one("3 ! a")))
        told = one("self() ! a, self() ! b, self() ! c, receive b -> 1 end, receive X when X =:= self() -> 1 end")
        self.assertEqual((((), "waits", ("a", "c")),), standing(told, led(told)))
        told = one("spawn(m, g, [self()]), receive z -> 1 end", "g(P) -> self() ! P, self() ! self(), receive X when X =:= self() -> exit(X) end.")
        self.assertEqual((("receive", C), ("end", C)), story(told, led(told), (1,))[-2:])
        self.assertEqual(((1,), "ended", ()), standing(told, led(told))[1])
        told = one("spawn(fun () -> receive X -> exit(X) end end) ! {a, 1}, receive z -> 1 after 2 -> over end")
        self.assertEqual((("receive", ("tuple", "a", 1)), ("end", ("tuple", "a", 1))), story(told, led(told), (1,)))
        self.assertEqual((("wait", 2),), looks(told)[2:])
        self.assertEqual((("wait", 2), ("over",), ("end", "normal")), looks(told, 2)[2:])
        self.assertEqual((("over",), ("end", "none")), looks(one("receive z -> 1 after 0 -> exit(none) end")))
        self.assertEqual((("send", P, "z"), ("receive", "z"), ("end", "normal")), looks(one("self() ! z, receive z -> 1 after 0 -> exit(none) end")))
        self.assertEqual((("end", ("tuple", "timeout_value", ("list",))),), looks(one("receive z -> 1 after a -> 1 end")))
        self.assertEqual((), looks(one("receive z -> 1 after infinity -> exit(none) end"), 3))

    def test_a_letter_ahead_of_a_look_that_is_there(self):
        told = one("spawn(m, g, [self()]), receive z -> 1 after 0 -> exit(none) end", "g(P) -> P ! z, P ! z.")
        sent = (GO, GO, ("go", (1,)), ("go", (1,)))
        self.assertEqual(("over",), story(told, (*sent, GO), ())[-1])
        self.assertEqual(("receive", "z"), story(told, (*sent, ("come", (1,), ()), GO), ())[-1])
        told = one("spawn(m, g, [self()]), receive z -> 1 after 2 -> exit(none) end", "g(P) -> P ! y, P ! z, P ! z.")
        sent = (GO, GO, ("go", (1,)), ("go", (1,)), ("go", (1,)), ("come", (1,), ()), ("go", (1,)))
        self.assertEqual(("wait", 2), story(told, (*sent, GO), ())[-1])
        self.assertEqual(("receive", "z"), story(told, (*sent, ("come", (1,), ()), GO), ())[-1])
        late = (*sent, GO, TICK, TICK)
        letter, over = ("come", (1,), ()), ("come", "clock", ())
        self.assertEqual(("over",), story(told, (*late, over, letter, letter, GO), ())[-1])
        self.assertEqual(("receive", "z"), story(told, (*late, letter, over, letter, GO), ())[-1])
        self.assertEqual("waits", standing(told, late)[0][1])
        self.assertEqual(("y", "z"), standing(told, (*late, over, letter))[0][2])

    def test_an_over_of_an_elder_wait_is_dropped(self):
        told = one("spawn(m, g, [self()]), receive z -> 1 after 2 -> 0 end, receive x -> 1 after 4 -> exit(none) end", "g(P) -> P ! z.")
        weaving = (GO, GO, GO, ("go", (1,)), ("go", (1,)), ("come", (1,), ()), GO, GO, TICK, TICK)
        self.assertEqual((("clock", (), (("over", 0),)),), on_way(told, weaving))
        weaving = (*weaving, ("come", "clock", ()))
        self.assertEqual("waits", standing(told, weaving)[0][1])
        weaving = (*weaving, TICK, TICK)
        self.assertEqual((("clock", (), (("over", 1),)),), on_way(told, weaving))
        self.assertEqual((("over",), ("end", "none")), story(told, (*weaving, ("come", "clock", ()), GO, GO), ())[-2:])
        told = one("spawn(m, g, [self()]), receive z -> 1 after 2 -> 0 end, receive x -> 1 end", "g(P) -> P ! z.")
        weaving = (GO, GO, GO, ("go", (1,)), ("go", (1,)), ("come", (1,), ()), GO, TICK, TICK, ("come", "clock", ()))
        self.assertEqual("waits", standing(told, weaving)[0][1])

    def test_children(self):
        told = one("A = spawn(m, g, [1]), F = fun () -> 2 end, {B, R} = spawn_monitor(F), C = spawn_link(fun m:h/0), make_ref(), "
                   "spawn_monitor(m, no, []), exit({A, B, R, C})", "g(X) -> exit({got, X}). h() -> exit(self()).")
        fun = ("fun", "m", 0, 0, 1, ())
        self.assertEqual((("begin", "alone", C, ("call", "m", "g", (1,)), None), ("begin", "watched", ("pid", (2,)), ("fun", fun), A),
                          ("begin", "tied", ("pid", (3,)), ("fun", ("fun", "m", "h", 0, 0, ())), None),
                          ("begin", "watched", ("pid", (4,)), ("call", "m", "no", ()), ("ref", (), 3)),
                          ("end", ("tuple", C, ("pid", (2,)), A, ("pid", (3,))))), looks(told))
        weaving = led(told)
        self.assertEqual((("full", "m", "g", 1, 1), ("end", ("tuple", "got", 1))), story(told, weaving, (1,)))
        self.assertEqual((("end", "normal"),), story(told, weaving, (2,)))
        self.assertEqual((("full", "m", "h", 0, 1), ("end", ("pid", (3,)))), story(told, weaving, (3,)))
        self.assertEqual((("full", "m", "no", 0, 0), ("end", ("tuple", "undef", ("list",)))), story(told, weaving, (4,)))

    def test_arguments_that_cannot_be_as_asked(self):
        calls = ("link(1)", "unlink(a)", "unregister(1)", "whereis(self())", "cancel_timer(1)", "purge(1)", "soft_purge(1)", "delete({})",
                 "monitor(proces, self())", "monitor(process, 1)", "exit(a, b)", "process_flag(trap, true)", "process_flag(trap_exit, 1)",
                 "register(1, self())", "register(a, 1)", "load(1, 1)", "load(m, a)", "send_after(-1, self(), 1)", "send_after(1, a, 1)",
                 "start_timer(a, self(), 1)", "demonitor(1)", "demonitor(make_ref(), flush)", "demonitor(make_ref(), [])", "spawn(1)",
                 "spawn(fun (X) -> X end)", "spawn(m, f, 1)", "spawn(1, f, [])", "spawn_link(m, 1, [])", "spawn_monitor(m, f, [1 | 2])")
        for call in calls:
            self.assertEqual((("end", "badarg"),), looks(one("X = 1, try " + call + " of _ -> X catch error:E -> exit(E) end")), call)

    def test_what_looks_come_to(self):
        told = one("T = link(self()), exit([T, process_flag(trap_exit, true), process_flag(trap_exit, false), monotonic_time(), cancel_timer(make_ref()), "
                   "demonitor(make_ref()), register(a, self()), whereis(a), unregister(a), whereis(a), unlink(self()), "
                   "cancel_timer(send_after(3, self(), x)), monitor(process, self()), exit(self(), normal)])")
        self.assertEqual(("exit", P, "normal"), looks(told)[-2])
        told = one("T = link(self()), exit([T, process_flag(trap_exit, true), process_flag(trap_exit, false), monotonic_time(), cancel_timer(make_ref()), "
                   "demonitor(make_ref()), register(a, self()), whereis(a), unregister(a), whereis(a), unlink(self()), "
                   "cancel_timer(send_after(3, self(), x)), monitor(process, self())])")
        ref = ("ref", (), 3)
        self.assertEqual((("tie", P), ("trap", True, False), ("trap", False, True), ("clock", 0), ("cancel", A, None), ("unwatch", B, False),
                          ("give", "a", P, True), ("who", "a", P), ("free", "a", True), ("who", "a", "undefined"), ("untie", P),
                          ("timer", ref, "send", 3, P, "x"), ("cancel", ref, 3), ("watch", ("ref", (), 4), P, P),
                          ("end", ("list", "true", "false", "true", 0, "false", "true", "true", P, "true", "undefined", "true", 3, ("ref", (), 4)))),
                         looks(told))


class Ends(unittest.TestCase):
    def test_exits_to_oneself(self):
        for reason, told in (("a", "a"), ("normal", "normal"), ("kill", "killed")):
            self.assertEqual((("exit", P, reason), ("end", told)), looks(one("exit(self(), " + reason + "), x ! y")))
        trapping = one("process_flag(trap_exit, true), X = exit(self(), a), exit({X, exit(self(), kill)})")
        self.assertEqual(("end", "killed"), looks(trapping)[-1])
        trapping = one("process_flag(trap_exit, true), X = exit(self(), a), exit(X)")
        self.assertEqual(("end", "true"), looks(trapping)[-1])
        trapping = one("process_flag(trap_exit, true), exit(self(), normal), receive X -> exit(X) end")
        self.assertEqual((("receive", ("tuple", "EXIT", P, "normal")), ("end", ("tuple", "EXIT", P, "normal"))), looks(trapping)[2:])
        self.assertEqual((("exit", P, "kill"), ("end", "killed")), looks(one("process_flag(trap_exit, true), exit(self(), kill), 1"))[1:])

    def test_exits_to_others(self):
        text = "C = spawn(m, g, [%s]), exit(C, %s), receive z -> 1 end"
        for trap, reason, last in ((0, "a", ("end", "a")), (0, "normal", ("full", "m", "g", 1, 1)), (0, "kill", ("end", "killed")),
                                   (1, "kill", ("end", "killed")), (1, "b", ("end", ("tuple", "EXIT", P, "b")))):
            told = one(text % (trap, reason), "g(0) -> receive X -> exit(X) end; g(1) -> process_flag(trap_exit, true), g(0).")
            self.assertEqual(last, story(told, led(told, (GO, GO, ("go", (1,)), *((("go", (1,)),) * trap))), (1,))[-1])

    def test_ties(self):
        told = one("spawn_link(fun () -> exit(boom) end), receive z -> 1 end")
        self.assertEqual(("end", "boom"), looks(told)[-1])
        told = one("spawn_link(fun () -> 1 end), receive z -> 1 after 1 -> quiet end")
        self.assertEqual((("wait", 1), ("over",), ("end", "normal")), looks(told, 2)[-3:])
        told = one("process_flag(trap_exit, true), C = spawn_link(fun () -> 1 end), receive {'EXIT', C, R} -> exit({got, R}) end")
        self.assertEqual(("end", ("tuple", "got", "normal")), looks(told)[-1])
        told = one("C = spawn(m, g, []), link(C), exit(bad)", "g() -> receive z -> 1 end.")
        self.assertEqual(("end", "bad"), looks(told, 0, (1,))[-1])
        told = one("C = spawn_link(m, g, []), unlink(C), exit(bad)", "g() -> receive z -> 1 end.")
        self.assertEqual((), looks(told, 0, (1,)))
        # One that has ended answers a tie.
        told = one("process_flag(trap_exit, true), C = spawn(fun () -> 1 end), receive a -> 1 after 1 -> link(C) end, receive X -> exit(X) end")
        self.assertEqual(("end", ("tuple", "EXIT", C, "noproc")), looks(told, 1)[-1])

    def test_an_exit_behind_an_untie_does_nothing(self):
        told = one("C = spawn_link(m, g, []), C ! stop, unlink(C), receive z -> 1 after 1 -> exit(quiet) end", "g() -> receive stop -> exit(boom) end.")
        weaving = (GO, GO, ("go", (1,)), GO, ("come", (), (1,)), ("go", (1,)), ("go", (1,)), GO)
        self.assertEqual(((((1,), (), (("exit", "boom", True, 0),))),), on_way(told, weaving)[1:])
        self.assertEqual(("end", "quiet"), story(told, led(told, weaving, 1), ())[-1])
        weaving = weaving[:-1] + (("come", (1,), ()),)
        self.assertEqual(("end", "boom"), story(told, weaving, ())[-1])

    def test_watches(self):
        told = one("{C, R} = spawn_monitor(fun () -> exit(boom) end), receive {'DOWN', R, process, C, X} -> exit(X) end")
        self.assertEqual(("end", "boom"), looks(told)[-1])
        told = one("C = spawn(fun () -> 1 end), receive z -> 1 after 1 -> monitor(process, C) end, receive X -> exit(X) end")
        self.assertEqual(("end", ("tuple", "DOWN", A, "process", C, "noproc")), looks(told, 1)[-1])
        told = one("C = spawn(fun () -> receive z -> 1 end end), register(c, C), monitor(process, c), C ! z, receive X -> exit(X) end")
        self.assertIn(("watch", A, "c", C), looks(told))
        self.assertEqual(("end", ("tuple", "DOWN", A, "process", "c", "normal")), looks(told)[-1])
        told = one("monitor(process, c), receive X -> exit(X) end")
        self.assertEqual((("watch", A, "c", None), ("receive", ("tuple", "DOWN", A, "process", "c", "noproc"))), looks(told)[:2])
        told = one("register(c, self()), monitor(process, c), receive X -> exit(X) after 1 -> exit(none) end")
        self.assertEqual(("end", "none"), looks(told, 1)[-1])

    def test_watches_taken_back(self):
        begin = "{C, R} = spawn_monitor(fun () -> receive z -> 1 end end), C ! z, "
        told = one(begin + "demonitor(R), receive X -> exit(X) after 1 -> exit(none) end")
        self.assertEqual(("end", "none"), looks(told, 1)[-1])
        for flush, last in (("", ("tuple", "DOWN", A, "process", C, "normal")), (", [flush]", "none")):
            told = one(begin + "receive y -> 1 after 1 -> demonitor(R" + flush + ") end, receive X -> exit(X) after 1 -> exit(none) end")
            self.assertEqual(("end", last), looks(told, 2)[-1])
            self.assertIn(("unwatch", A, flush != ""), looks(told, 2))
        told = one("R = monitor(process, no), demonitor(R), receive X -> exit(X) after 1 -> exit(none) end")
        self.assertEqual(("end", "none"), looks(told, 1)[-1])

    def test_signals_to_oneself_come_at_once(self):
        told = one("link(self()), monitor(process, self()), self() ! a, exit(self(), normal)")
        weaving = led(told)
        self.assertEqual((GO,) * 5, weaving)
        self.assertEqual((), on_way(told, weaving))

    def test_names(self):
        told = one("C = spawn(fun () -> receive z -> 1 end end), register(c, C), R = [catch register(c, self()), catch register(d, C), "
                   "catch register(undefined, self()), catch unregister(e), whereis(c)], c ! z, receive y -> 1 after 1 -> exit([whereis(c), catch register(x, C), catch c ! z | R]) end")
        bad = ("tuple", "EXIT", ("tuple", "badarg", ("list",)))
        rows = looks(told, 1)
        self.assertEqual(("list", "undefined", bad, bad, bad, bad, bad, bad, C), rows[-1][1])
        for look in (("give", "c", C, True), ("give", "c", P, False), ("give", "d", C, False), ("give", "undefined", P, False), ("free", "e", False),
                     ("who", "c", C), ("send", "c", C, "z"), ("who", "c", "undefined"), ("give", "x", C, False), ("send", "c", None, "z")):
            self.assertIn(look, rows)
        told = one("register(me, self()), me ! a, receive X -> exit(X) end")
        self.assertEqual((("send", "me", P, "a"), ("receive", "a"), ("end", "a")), looks(told)[1:])

    def test_timers(self):
        told = one("S = self(), send_after(0, S, a), T = start_timer(2, S, b), U = send_after(1, S, c), V = send_after(9, S, d), receive c -> 1 end, "
                   "W = monotonic_time(), receive {timeout, T, b} -> 1 end, exit([W, monotonic_time(), cancel_timer(U), cancel_timer(V), cancel_timer(V), T])")
        rows = looks(told, 2)
        self.assertEqual(("list", 1, 2, "false", 7, "false", B), rows[-1][1])
        self.assertEqual((("cancel", ("ref", (), 3), None), ("cancel", ("ref", (), 4), 7), ("cancel", ("ref", (), 4), None)), rows[-4:-1])
        self.assertIn(("timer", B, "start", 2, P, "b"), rows)
        # Timers of the gone go on; so do those for the gone.
        told = one("spawn(m, g, [self()]), receive X -> exit(X) end", "g(P) -> send_after(2, P, late), send_after(2, self(), x).")
        self.assertEqual(("end", "late"), looks(told, 2)[-1])

    def test_what_comes_to_the_gone_is_answered_for_it(self):
        told = one("C = spawn(fun () -> 1 end), C ! a, link(C), monitor(process, C), unlink(C), exit(C, b), process_flag(trap_exit, true), receive z -> 1 end")
        weaving = (GO, GO, ("go", (1,)), *((GO,) * 6))
        self.assertEqual(5, len(on_way(told, weaving)[0][2]))
        weaving = (*weaving, *((("come", (), (1,)),) * 5))
        self.assertEqual((((1,), (), (("exit", "noproc", True, 0), ("notice", A, "noproc"))),), on_way(told, weaving))
        self.assertEqual((("tuple", "DOWN", A, "process", C, "noproc"),), standing(told, (*weaving, *((("come", (1,), ()),) * 2)))[0][2])


class Heard(unittest.TestCase):
    def test_signals_and_answers(self):
        told = one("process_flag(trap_exit, true), C = spawn_link(m, g, [self()]), catch no ! a, monitor(process, no), whereis(no), monotonic_time(), "
                   "T = send_after(1, self(), t), cancel_timer(T), cancel_timer(T), receive {'EXIT', C, _} -> 1 end, receive {'DOWN', _, _, _, _} -> 1 end, receive X -> X end",
                   "g(P) -> P ! hi, exit(bye).")
        weaving = led(told)
        signals, answers = heard(told, weaving, ())
        self.assertEqual((1, None, None, "undefined", 0, 1, None), answers)
        self.assertEqual((((1,), ("letter", "hi"), 10), ((1,), ("exit", "bye", True, 0), 10), ("names", ("notice", A, "noproc"), 11)), signals)
        self.assertEqual(((((), ("tie", 0), 0),), (1,)), heard(told, weaving, (1,)))
        told = one("spawn(fun () -> 1 end), spawn_monitor(fun () -> 1 end)")
        self.assertEqual([((), ()), ((), ())], [heard(told, led(told), path) for path in ((1,), (2,))])

    def test_overs_and_purges(self):
        told = one("receive z -> 1 after 1 -> over end")
        self.assertEqual((("clock", ("over", 0), 2),), heard(told, led(told, (), 1), ())[0])
        signals, _ = heard(ALL["editions"], PURGED, (1,))
        self.assertEqual(("code", ("exit", "kill", False, 0)), signals[-1][:2])

    def test_pairs(self):
        # Signals of a pair come in their sequence: what is on the way, and what was heard, is what was sent.
        rng = random.Random(4)
        for _ in range(40):
            weaving = walked(MANY, rng, 80)
            for _, to, signals in on_way(MANY, weaving):
                self.assertTrue(signals)
            sent = [look[2] for look in story(MANY, weaving, ()) if look[0] == "send" and look[1] == C]
            if len(standing(MANY, weaving)) > 1:
                came = [signal[1] for sender, signal, _ in heard(MANY, weaving, (1,))[0] if sender == () and signal[0] == "letter"]
                self.assertEqual(sent[:len(came)], came)

    def test_notices(self):
        rng = random.Random(5)
        for told in ALL.values():
            for _ in range(25):
                weaving = walked(told, rng, 150)
                for path, _, _ in standing(told, weaving):
                    notices = [signal[1] for _, signal, _ in heard(told, weaving, path)[0] if signal[0] == "notice"]
                    self.assertEqual(len(notices), len(set(notices)))


OK_SYSTEM = System((OK,), ("m", "f", ()))
PURGED = walked(ALL["editions"], random.Random(3), 120)


class Editions(unittest.TestCase):
    OLD = "-module(v). -export([w/1, old/0, mk/0]). w(P) -> receive X -> P ! {old, X}, v:w(P) end. old() -> 1. mk() -> fun () -> self() end."
    NEW = "-module(v). -export([w/1, mk/0]). w(P) -> receive X -> P ! {new, X} end. mk() -> 2."

    def run_of(self, body, ticks=0, more=""):
        return looks(system("-module(m). -export([f/0]). f() -> " + body + ". " + more, self.OLD, self.NEW), ticks)

    def test_loads(self):
        rows = self.run_of("load(v, 0), load(v, 1), load(v, 2), load(v, -1), load(w, 0), soft_purge(v), load(v, 1), soft_purge(w), purge(w)")
        self.assertEqual((("load", "v", 0, ("tuple", "ok", 2)), ("load", "v", 1, ("tuple", "error", "not_purged")),
                          ("load", "v", 2, ("tuple", "error", "nosuch")), ("load", "v", -1, ("tuple", "error", "nosuch")),
                          ("load", "w", 0, ("tuple", "error", "nosuch")), ("soft", "v", "true"), ("load", "v", 1, ("tuple", "ok", 3)),
                          ("soft", "w", "true"), ("purge", "w", 0)), rows[:-1])

    def test_deletes(self):
        rows = self.run_of("delete(v), delete(v), delete(w), catch v:old(), load(v, 1), purge(v), load(v, 1), delete(v), delete(m)")
        self.assertEqual((("delete", "v", "ok"), ("delete", "v", ("tuple", "error", "nosuch")), ("delete", "w", ("tuple", "error", "nosuch")),
                          ("full", "v", "old", 0, 0), ("load", "v", 1, ("tuple", "error", "not_purged")), ("purge", "v", 0),
                          ("load", "v", 1, ("tuple", "ok", 2)), ("delete", "v", "ok"), ("delete", "m", "ok")), rows[:-1])
        self.assertEqual(("delete", "v", ("tuple", "error", "not_purged")), self.run_of("load(v, 1), delete(v)")[1])

    def test_full_calls_go_to_what_is_current(self):
        rows = self.run_of("v:old(), load(v, 1), catch v:old(), v:mk(), F = fun v:mk/0, F(), apply(v, mk, []), load(v, 0), purge(v), load(v, 0), F()")
        self.assertEqual([1, 0, 2, 2, 2, 3], [look[4] for look in rows if look[0] == "full"])

    def test_what_is_gone(self):
        begin = "F = v:mk(), load(v, 1), catch F(), P = spawn(fun () -> receive G -> exit(catch G()) end end), "
        told = system("-module(m). -export([f/0]). f() -> " + begin + "P ! F, purge(v), receive z -> 1 end.", self.OLD, self.NEW)
        weaving = (GO,) * 6
        self.assertEqual(("purge", "v", 0), story(told, weaving, ())[-1])
        fun = ("fun", "v", 0, 0, 1, ())
        self.assertEqual(("end", ("tuple", "EXIT", ("tuple", ("tuple", "badfun", fun), ("list",)))), story(told, led(told, weaving), (1,))[-1])
        weaving = (*weaving[:-1], ("come", (), (1,)), GO)
        self.assertEqual(("purge", "v", 1), story(told, weaving, ())[-1])
        self.assertEqual((("end", "killed"),), story(told, weaving, (1,)))


class LastPlaces(unittest.TestCase):
    """A process of edition 1 of v calls w:stay in some place, which waits: whether purge(v) ends it."""

    def answer(self, body, more=""):
        old = "-module(v). -export([go/1, mk/0]). go(P) -> " + body + ". mk() -> fun () -> 1 end. own(P) -> w:stay(P). " + more
        stay = ("-module(w). -export([stay/1, stay/2]). stay(P) -> P ! on, receive never -> 1 end. "
                "stay(P, F) -> P ! on, receive never -> 1 end, P ! F.")
        told = system("-module(m). -export([f/0]). f() -> spawn(v, go, [self()]), receive on -> 1 end, load(v, 1), soft_purge(v), purge(v).",
                      old, "-module(v).", stay)
        rows = looks(told)
        soft, answer = [look[-1] for look in rows if look[0] in ("soft", "purge")]
        self.assertEqual(("true", "false")[answer], soft)
        return answer

    def test_places(self):
        for body, wanted in (
                ("w:stay(P)", 0), ("own(P)", 0), ("w:stay(P), 1", 1), ("X = w:stay(P)", 1), ("{w:stay(P)}", 1), ("begin 1, w:stay(P) end", 0),
                ("case P of _ -> w:stay(P) end", 0), ("case w:stay(P) of _ -> 1 end", 1), ("if P > 0 -> w:stay(P) end", 0),
                ("P ! a, receive z -> 1 after 0 -> w:stay(P) end", 0), ("self() ! z, receive z -> w:stay(P) end", 0),
                ("try w:stay(P) catch _ -> 1 end", 1), ("try 1 of _ -> w:stay(P) catch _ -> 1 end", 1), ("try throw(1) catch _ -> w:stay(P) end", 1),
                ("try 1 after w:stay(P) end", 1), ("true andalso w:stay(P)", 1), ("false orelse w:stay(P)", 1), ("catch w:stay(P)", 1),
                ("[w:stay(P) || _ <- [1]]", 1), ("F = fun () -> w:stay(P) end, F()", 0), ("F = fun () -> w:stay(P), 1 end, F()", 1),
                ("F = fun () -> w:stay(P) end, F(), 1", 1), ("apply(w, stay, [P])", 0), ("F = fun w:stay/1, F(P)", 0), ("spawn(w, stay, [P])", 0),
                ("P ! on, receive never -> 1 end", 1), ("spawn(fun () -> w:stay(P) end)", 0), ("spawn(fun () -> w:stay(P), 1 end)", 1)):
            self.assertEqual(wanted, self.answer(body), body)

    def test_who_is_begun(self):
        # Ahead of its first look who was begun by a function of an edition stands in it; by a call nowhere.
        for start, wanted in (("fun () -> self() ! 1 end", 1), ("fun () -> 1 end", 0), ("v, mk, []", 0), ("fun v:mk/0", 0), ("fun mk/0", 1)):
            told = system("-module(m). -export([f/0]). f() -> spawn(v, go, []).",
                          "-module(v). -export([go/0, mk/0]). go() -> spawn(" + start + "), load(v, 1), v:do(). mk() -> self() ! 1.",
                          "-module(v). -export([do/0]). do() -> exit(purge(v)).")
            weaving = (GO, GO, *((("go", (1,)),) * 6))
            self.assertEqual(("end", wanted), story(told, weaving, (1,))[-1], start)

    def test_terms(self):
        other = "-module(u). -export([go/1, hold/2, give/0]). "
        for body, wanted in (
                ("F = v:mk(), P ! on, receive never -> 1 end, P ! F", 1), ("F = v:mk(), P ! on, receive never -> 1 end, F = P", 1),
                ("_ = v:mk(), P ! on, receive never -> 1 end, P ! 1", 0), ("F = v:mk(), {F}, P ! on, receive never -> 1 end", 0),
                ("F = v:mk(), P ! on, receive {F, _} -> 1 end", 1), ("F = v:mk(), P ! on, receive #{F := _} -> 1 end", 1),
                ("F = v:mk(), P ! on, receive X when X == F -> 1 end", 1), ("F = v:mk(), P ! on, receive a -> F; b -> 1 end", 1),
                ("F = v:mk(), P ! on, receive a -> 1 after infinity -> F end", 1), ("F = v:mk(), P ! on, receive a -> 1 after 5 -> F end", 1),
                ("F = v:mk(), P ! on, {F, receive never -> 1 end}", 1), ("F = v:mk(), P ! on, {receive never -> 1 end, F}", 1),
                ("P ! on, {v:mk(), receive never -> 1 end}", 1), ("F = v:mk(), P ! on, [receive never -> 1 end || _ <- [1, F]]", 1),
                ("F = v:mk(), P ! on, [receive never -> 1 end || _ <- [F, 1]]", 0), ("F = v:mk(), P ! on, [{receive never -> 1 end, F} || _ <- [1]]", 1),
                ("F = v:mk(), P ! on, [receive never -> F end || _ <- [1]]", 1), ("F = v:mk(), P ! on, [receive never -> 1 end || F <- [1]]", 0),
                ("F = v:mk(), P ! on, [case X of 1 -> F; 2 -> receive never -> 1 end end || X <- [1, 2]]", 1),
                ("P ! on, [case X of 1 -> v:mk(); 2 -> receive never -> 1 end end || X <- [1, 2]]", 1),
                ("P ! on, [case X of 1 -> hd([L]); 2 -> receive never -> 1 end end || X <- [1, 2], L <- [v:mk()]]", 1),
                ("F = v:mk(), P ! on, try receive never -> 1 end catch _ -> F end", 1), ("F = v:mk(), P ! on, try receive never -> 1 end of F -> 1 after 2 end", 1),
                ("F = v:mk(), P ! on, try receive never -> 1 end after F end", 1), ("P ! on, try v:mk() after receive never -> 1 end end", 1),
                ("P ! on, try throw(v:mk()) after receive never -> 1 end end", 1), ("P ! on, catch (catch v:mk()), receive never -> 1 end", 0),
                ("F = v:mk(), P ! on, case receive never -> 1 end of F -> 1; _ -> 2 end", 1), ("F = v:mk(), P ! on, receive never -> 1 end, fun () -> F end", 1),
                ("F = v:mk(), P ! on, receive never -> 1 end, fun (F) -> F end", 0), ("F = v:mk(), P ! on, receive never -> 1 end, case P of 1 -> 2; 3 -> F end", 1),
                ("F = v:mk(), P ! on, F = receive never -> 1 end", 1), ("F = v:mk(), P ! on, (receive never -> true end) andalso F", 1),
                ("F = v:mk(), P ! on, receive never -> 1 end, #{a => {F}}", 1), ("F = [v:mk()], P ! on, receive never -> 1 end, [1 | F]", 1),
                ("F = fun v:mk/0, P ! on, receive never -> 1 end, F", 0), ("P ! on, receive never -> 1 after begin F = v:mk(), 5 end -> F end", 1),
                ("P ! on, receive never -> 1 after begin F = v:mk(), 5 end -> {F} end, 2", 1), ("P ! on, receive never -> 1 after begin _ = v:mk(), 5 end -> P end", 0),
                ("F = v:mk(), P ! on, receive never -> 1 after receive z -> 1 end -> F end", 1), ("F = v:mk(), P ! on, receive {_, F} -> 1 after receive z -> 1 end -> 2 end", 1),
                ("F = v:mk(), P ! on, try 1 after receive never -> 1 end end, F", 1), ("F = v:mk(), P ! on, try throw(1) after receive never -> 1 end end, F", 1),
                ("F = v:mk(), P ! on, try throw(1) after receive never -> 1 end end, P", 0), ("F = v:mk(), P ! on, try throw(1) catch _ -> receive never -> 1 end after F end", 1),
                ("F = v:mk(), P ! on, try 1 of _ -> receive never -> 1 end catch _ -> F end", 0), ("F = v:mk(), P ! on, try receive never -> 1 end of _ -> 1 catch F -> 1 end", 1),
                ("F = v:mk(), P ! on, [{X, F} || X <- receive never -> [1] end]", 1), ("F = v:mk(), P ! on, [X || X <- receive never -> [1] end, X == F]", 1),
                ("F = v:mk(), P ! on, [F || F <- receive never -> [1] end]", 0), ("F = v:mk(), P ! on, [X || X <- receive never -> [1] end, F <- [X]]", 0),
                ("F = v:mk(), P ! on, [X || X <- [1], receive never -> true end, Y <- [F], Y > 1]", 1), ("F = v:mk(), P ! on, [1 || #{F := _} <- receive never -> [1] end]", 1),
                ("F = v:mk(), P ! on, [case X of 1 -> F; 2 -> receive never -> 1 end end || X <- [2, 1]]", 1), ("F = v:mk(), P ! on, [case X of 1 -> P; 2 -> receive never -> 1 end end || X <- [2, 1]]", 0),
                ("F = v:mk(), P ! on, receive never -> 1 end, if F > 1 -> 1; P > 1 -> 2 end", 1), ("F = v:mk(), P ! on, receive never -> 1 end, if P > 1 -> F; true -> 2 end", 1),
                ("F = v:mk(), P ! on, receive never -> 1 end, [F || _ <- [1]]", 1), ("F = v:mk(), P ! on, receive never -> 1 end, [1 || _ <- F]", 1), ("F = v:mk(), P ! on, receive never -> 1 end, [1 || F <- [1]]", 0),
                ("F = v:mk(), P ! on, receive never -> 1 end, [1 || X <- [1], X > F]", 1), ("F = v:mk(), P ! on, receive never -> 1 end, try F catch _ -> 1 end", 1), ("F = v:mk(), P ! on, receive never -> 1 end, try 1 of F -> 1 catch _ -> 1 end", 1),
                ("F = v:mk(), P ! on, receive never -> 1 end, try 1 catch _ -> F end", 1), ("F = v:mk(), P ! on, receive never -> 1 end, try 1 after hold(F) end", 1), ("F = v:mk(), P ! on, receive never -> 1 end, catch hold(F)", 1),
                ("F = v:mk(), P ! on, receive never -> 1 end, hold(true) andalso F", 1), ("F = v:mk(), P ! on, receive never -> 1 end, hold(F) orelse true", 1), ("F = v:mk(), P ! on, receive never -> 1 end, begin 1, F end", 1),
                ("F = v:mk(), P ! on, receive never -> 1 end, receive F -> 1 end", 1), ("F = v:mk(), P ! on, receive never -> 1 end, receive a -> 1 after hold(F) -> 1 end", 1), ("F = v:mk(), P ! on, receive never -> 1 end, receive a -> 1 after 1 -> F end", 1),
                ("F = v:mk(), P ! on, receive never -> 1 end, P ! F", 1), ("F = v:mk(), P ! on, receive never -> 1 end, v:hold(F)", 1), ("F = v:mk(), P ! on, receive never -> 1 end, F()", 1), ("F = v:mk(), P ! on, receive never -> 1 end, P(F)", 1),
                ("F = v:mk(), P ! on, receive never -> 1 end, X = {F}, X", 1), ("F = v:mk(), P ! on, receive never -> 1 end, #{}#{a => hold(F)}", 1), ("F = v:mk(), P ! on, receive never -> 1 end, apply(P, [F])", 1),
                ("F = v:mk(), P ! on, receive never -> 1 end, case hold(P) of {F} -> 1 end", 1), ("F = v:mk(), P ! on, receive never -> 1 end, case F of _ -> 1 end", 1), ("F = v:mk(), P ! on, receive never -> 1 end, fun hold/1", 0),
                ("P ! on, try X = v:mk(), X, receive never -> 1 end catch _ -> X = 2, X end", 0), ("P ! on, try X = v:mk(), X, receive never -> 1 end after X = 2, X end", 0),
                ("P ! on, try X = v:mk(), X, receive never -> 1 end of _ -> X catch _ -> 1 end", 1), ("P ! on, [X || X <- begin Y = v:mk(), Y, receive never -> [1] end end, begin Y = 2, Y > 1 end]", 0),
                ("P ! on, [Y || X <- [1, 2], Y <- case X of 1 -> [v:mk()]; 2 -> receive never -> [1] end end]", 1), ("P ! on, [Y || X <- [1, 2], Y <- case X of 1 -> [v:mk()]; 2 -> receive never -> [1] end end, false]", 0),
                ("P ! on, [receive never -> 1 end || X <- [1], begin Y = v:mk(), is_function(Y) end, Y <- [2], X > Y]", 0),
                ("F = v:mk(), P ! on, receive never -> 1 end, {{}, #{}, []}", 0), ("F = v:mk(), P ! on, receive never -> 1 end, {{}, #{1 => F}, []}", 1),
                ("F = v:mk(), P ! on, {many(F), receive never -> 1 end}", 0), ("F = v:mk(), P ! on, {many(F), receive never -> 1 end, F}", 1),
                ("P ! on, {begin X = v:mk(), 1 end, receive never -> 1 end}, X", 1), ("P ! on, {begin X = v:mk(), many(X) end, receive never -> 1 end}, P", 0),
                ("P ! on, {many(P), begin X = v:mk(), receive never -> 1 end end}, X", 1),
                ("P ! on, receive X -> X after begin X = v:mk(), X, receive never -> 5 end end -> 2 end", 0), ("P ! on, try 1 of _ -> X = v:mk(), X, receive never -> 1 end after X = 2, X end", 0),
                ("F = v:mk(), P ! on, receive never -> 1 end, [X || X <- F, Y <- [1], Y > 1]", 1), ("F = v:mk(), P ! on, receive never -> 1 end, [X || F <- [1], X <- F, X > 1]", 0),
                ("F = v:mk(), P ! on, receive never -> 1 end, <<1>>", 0), ("F = v:mk(), P ! on, receive never -> 1 end, fun F(1) -> F(2) end", 0), ("F = v:mk(), P ! on, receive never -> 1 end, not (1 > length([F]))", 1), ("P ! on, try G = v:mk(), receive never -> G end of _ -> 1 after 3 end, G = 2, G", 1),
                ("P ! on, try G = v:mk(), G, receive never -> 1 end of _ -> 1 after 3 end, G = 2, G", 0),
                ("self() ! v:mk(), P ! on, receive never -> 1 end", 1), ("F = v:mk(), P ! on, hold(F)", 0), ("F = v:mk(), P ! on, hold({F, 1}), F", 1)):
            text = other + "go(P) -> " + body + ". hold(X) -> X, receive never -> 1 end. many(X) -> length([X]). hold(X, Y) -> {X, Y}. give() -> 1."
            told = system("-module(m). -export([f/0]). f() -> spawn(u, go, [self()]), receive on -> 1 end, load(v, 1), purge(v).",
                          "-module(v). -export([mk/0]). mk() -> fun () -> 1 end.", "-module(v).", text)
            self.assertEqual(("purge", "v", wanted), looks(told)[-2], body)

    def test_arguments_of_a_call_that_is_there(self):
        told = system("-module(m). -export([f/0]). f() -> spawn(u, go, []), load(v, 1), purge(v).", "-module(v). -export([mk/0]). mk() -> fun () -> 1 end.", "-module(v).",
                      "-module(u). -export([go/0, take/1]). go() -> u:take(v:mk()). take(_) -> receive never -> 1 end.")
        for many, wanted in ((2, 1), (3, 0)):
            weaving = (GO, GO, *((("go", (1,)),) * many), GO, GO)
            self.assertEqual(("purge", "v", wanted), story(told, weaving, ())[-1])

    def test_own_functions_that_are_made(self):
        for body, wanted in (("fun mk/0", 1), ("fun v:mk/0", 0), ("{1, [fun mk/0]}", 1), ("#{fun mk/0 => 1}", 1), ("fun (X) -> X end", 1)):
            told = system("-module(m). -export([f/0]). f() -> F = v:go(), load(v, 1), purge(v), F.",
                          "-module(v). -export([go/0, mk/0]). mk() -> 1. go() -> " + body + ".", "-module(v).")
            rows = looks(told)
            self.assertEqual(("purge", "v", wanted), [look for look in rows if look[0] == "purge"][0])
            self.assertEqual("killed" if wanted else "normal", rows[-1][1])

    def test_look_that_is_there(self):
        told = system("-module(m). -export([f/0]). f() -> spawn(u, go, [self()]), receive on -> 1 end, load(v, 1), purge(v).",
                      "-module(v). -export([mk/0]). mk() -> fun () -> 1 end.", "-module(v).",
                      "-module(u). -export([go/1]). go(P) -> F = v:mk(), P ! on, P ! F, P ! on.")
        child = (("go", (1,)),)
        for many, wanted in ((0, 1), (1, 0)):
            weaving = (GO, GO, *(child * 3), ("come", (1,), ()), GO, GO, *(child * many), GO)
            self.assertEqual(("purge", "v", wanted), story(told, weaving, ())[-1])
        told = system("-module(m). -export([f/0]). f() -> spawn(u, go, []), load(v, 1), purge(v).", "-module(v). -export([mk/0]). mk() -> fun () -> 1 end.",
                      "-module(v).", "-module(u). -export([go/0]). go() -> exit(v:mk()).")
        weaving = (GO, GO, *(child * 2), GO, GO)
        self.assertEqual(("purge", "v", 0), story(told, weaving, ())[-1])


if __name__ == "__main__":
    unittest.main()
