"""What processes may still call, as searches see it: never less than what they do."""

import random
import unittest

from arrivalmill.exploring import Search, steps_to_try
from arrivalmill.foresight import ANY, Foresight
from arrivalmill.reading import Module
from arrivalmill.takers import may_fit, taking_patterns
from arrivalmill.weavings import steps_next
from arrivalmill.world import world_after, world_begun
from tests.systems import ALL, TICK, one, system
from tests import shaping
from tests.test_allruns import drawn

CALLS = {
    "send": (), "begin": ("spawn", "spawn_link", "spawn_monitor"), "tie": ("link",), "untie": ("unlink",), "watch": ("monitor", "spawn_monitor"), "unwatch": ("demonitor",), "exit": ("exit",),
    "trap": ("process_flag",), "give": ("register",), "free": ("unregister",), "who": ("whereis",), "clock": ("monotonic_time",), "timer": ("send_after", "start_timer"), "cancel": ("cancel_timer",),
    "load": ("load",), "purge": ("purge",), "soft": ("soft_purge",), "delete": ("delete",),
}


class Words(unittest.TestCase):
    def words(self, *texts):
        told = Foresight([Module(text) for text in texts])
        return {key: set(words) for key, words in told.words.items()}

    def test_own_calls(self):
        found = self.words("-module(m). f() -> g(1), self() ! 1. g(X) -> link(X), h(). h() -> F = fun () -> exit(self(), a) end, {F, abs(1)}. k() -> fun h/0. l() -> exit(a). n() -> fun () -> purge(m), fun () -> 1 end end.")
        self.assertEqual({"link", "exit"}, found[("m", "f", 0)])
        self.assertEqual({"link", "exit"}, found[("m", "g", 1)])
        self.assertEqual({"exit"}, found[("m", "h", 0)])
        self.assertEqual({"exit"}, found[("m", "k", 0)])
        self.assertEqual(set(), found[("m", "l", 0)])
        self.assertEqual([{"exit"}, {"purge"}, {"purge"}], [found[("m", number)] for number in range(3)])

    def test_numbers_and_long_rows(self):
        found = self.words("-module(m). a() -> b(). b() -> c(), fun Own(X) -> Own(X) end. c() -> d(). d() -> e(). e() -> fun () -> link(self()) end. z() -> fun (_) -> fun () -> 1 end end, purge(m).")
        self.assertEqual([{"link"}] * 3, [found[("m", name, 0)] - {ANY} for name in ("a", "c", "e")])
        self.assertEqual([{"link", ANY}, {"link"}, {"purge"}, {"purge"}], [found[("m", number)] for number in range(4)])

    def test_other_modules(self):
        texts = ("-module(m). f() -> n:g(1). g() -> n:no(). h(X) -> X:g(1). k(X) -> n:X(). l() -> fun n:g/1. p(X) -> apply(n, g, X). q(F) -> F(). r() -> spawn(n, g, [1]). s(X) -> spawn(n, g, X). "
                 "t(X) -> spawn_link(X, g, []). u(X) -> spawn(X). v() -> spawn(fun () -> unlink(self()) end). w() -> spawn_monitor(fun n:g/1). x() -> (fun (Y) -> Y end)(1). y() -> spawn(n, g, [1, 2]).",
                 "-module(n). g(X) -> delete(X). g(X, Y) -> {load(X, 1), Y}.", "-module(n). g(X) -> whereis(X).")
        found = self.words(*texts)
        both = {"delete", "whereis"}
        for name, size, wanted in (("f", 0, both), ("g", 0, set()), ("h", 1, {ANY}), ("k", 1, {ANY}), ("l", 0, both), ("p", 1, {ANY}), ("q", 1, {ANY}), ("r", 0, both | {"spawn"}), ("s", 1, both | {"load", "spawn"}),
                                   ("t", 1, {ANY, "spawn_link"}), ("u", 1, {ANY, "spawn"}), ("v", 0, {"unlink", "spawn"}), ("w", 0, both | {"spawn_monitor"}), ("x", 0, {ANY}), ("y", 0, {"load", "spawn"})):
            self.assertEqual(wanted, found[("m", name, size)], name)

    def test_nothing_is_done_that_was_not_foreseen(self):
        rng = random.Random(5)
        systems = [*ALL.values(), *(drawn(rng) for _ in range(40))]
        for told in systems:
            foresight = Foresight(told.modules)
            world = world_begun(told.texts, told.start)
            ahead = {}
            for _ in range(70):
                for path, doer in world.doers.items():
                    words = foresight.words_of(doer)
                    for look in doer.story[len(ahead.get(path, ((), {}))[0]):]:
                        if path in ahead and look[0] in CALLS and CALLS[look[0]]:
                            known = ahead[path][1]
                            self.assertTrue(ANY in known or set(CALLS[look[0]]) & set(known), (look, known))
                    ahead[path] = (doer.story, words)
                steps = steps_next(world)
                world = world_after(world, rng.choice(steps[:-1] if len(steps) > 1 and rng.random() < 0.9 else steps))


class Letters(unittest.TestCase):
    def test_all_receives_are_seen(self):
        told = taking_patterns([Module("-module(m). f(A) -> receive B -> B; {c, 1} when A > 1 -> fun () -> receive d -> [receive e -> 1 after receive g -> 1 end -> 2 end] end end end."), Module("-module(n). receive_it(a, b) -> 1.")])
        self.assertEqual({("name", "B"), ("tuple", (("atom", "c"), ("number", 1))), ("atom", "d"), ("atom", "e"), ("atom", "g")}, set(told))

    def test_what_fits_may_fit(self):
        rng = random.Random(6)
        fitted = refused = 0
        for _ in range(3000):
            pattern = shaping.pattern(rng, 2, ("X", "Y", "K"), ("K",))
            term = shaping.alike(rng, pattern, {}) if rng.random() < 0.7 else shaping.term(rng, 2)
            held = {"K": rng.choice((1, "a", ("list",)))}
            if shaping.fits(pattern, term, {}, held):
                self.assertTrue(may_fit(pattern, term))
                fitted += 1
            refused += not may_fit(pattern, term)
        self.assertTrue(fitted > 300 and refused > 300)

    def test_small_ones(self):
        x, one_number = ("name", "X"), ("number", 1)
        for pattern, term, wanted in ((x, 5, True), (("any",), 5, True), (one_number, 1, True), (one_number, 2, False), (("atom", "a"), "b", False), (("nil",), ("list",), True), (("nil",), ("list", 1), False),
                                      (("bytes", (1,)), ("bytes", 1), True), (("bytes", (1,)), ("bytes",), False), (("tuple", (x, x)), ("tuple", 1, 2), True), (("tuple", (x,)), ("tuple", 1, 2), False), (("tuple", (one_number,)), ("tuple", 2), False),
                                      (("tuple", ()), ("list",), False), (("cons", one_number, x), ("list", 1), True), (("cons", one_number, x), ("list", 2), False), (("cons", x, x), ("list",), False), (("cons", x, ("nil",)), ("list", 1, 2), False),
                                      (("map", ()), ("map", (1, 2)), True), (("map", ()), ("list",), False), (("map", ((one_number, one_number),)), ("map", (1, 2)), False), (("map", ((one_number, x),)), ("map", (2, 2)), False),
                                      (("map", ((x, one_number),)), ("map",), True), (("alias", x, one_number), 1, True), (("alias", one_number, ("atom", "a")), 1, False)):
            self.assertEqual(wanted, may_fit(pattern, term), (pattern, term))


class Tried(unittest.TestCase):
    """Which steps a search tries: just one, where it may be done first, whatever else comes."""

    def tried(self, told, weaving, ticks=2):
        world = world_begun(told.texts, told.start)
        for step in weaving:
            world = world_after(world, step)
        return steps_to_try(Search(told, ticks), world)

    def test_steps(self):
        go, child = ("go", ()), ("go", (1,))
        told = one("C = spawn(m, g, [self()]), receive a -> 1 after 2 -> C ! b end", "g(P) -> P ! a, P ! b, receive b -> 1 end.")
        self.assertEqual([go], self.tried(told, ()))
        self.assertEqual([child], self.tried(told, (go, go)))
        waits = (go, go, child, child, child)
        self.assertEqual([go, ("come", (1,), ())], self.tried(told, waits))
        self.assertEqual([("come", (1,), ()), TICK], self.tried(told, (*waits, go)))
        self.assertEqual([("come", (1,), ())], self.tried(told, (*waits, go), 0))
        # A receive that takes a letter may take away a tick: if its wait is over nothing else may be set.
        self.assertEqual([go, ("come", (1,), ()), TICK], self.tried(told, (*waits, go, ("come", (1,), ()))))
        self.assertEqual([go], self.tried(told, (*waits, go, ("come", (1,), ())), 0))
        ended = (*waits, ("come", (1,), ()), go, go)
        self.assertEqual([("come", (1,), ())], self.tried(told, ended))

    def test_who_may_be_ended_is_not_done_first(self):
        go, child = ("go", ()), ("go", (1,))
        for body, more, wanted in (
                ("spawn(m, g, [self()]), receive z -> 1 end", "g(P) -> exit(P, a).", [child]), ("C = spawn(m, g, [self()]), C ! 1, receive z -> 1 end", "g(P) -> exit(P, a).", [go, child]), ("spawn(m, g, [self()]), self() ! 1, receive z -> 1 end", "g(P) -> link(P), exit(P, a).", [go, child]),
                ("spawn_link(m, g, [self()]), self() ! 1, receive z -> 1 end", "g(P) -> P.", [go, child]), ("h(spawn(m, g, [self()]))", "h(C) -> C ! 1, receive z -> 1 end. g(P) -> exit(P, a).", [child]),
                ("C = spawn(m, g, [self()]), exit(C, b), receive z -> 1 end", "g(P) -> P ! a.", [go])):
            told = one(body, more)
            self.assertEqual(wanted, self.tried(told, (go, go)), body)
        told = one("C = spawn(m, g, [self()]), C ! 1, C ! 2", "g(P) -> P ! a, P ! b.")
        self.assertEqual([go], self.tried(told, (go, go)))
        told = one("C = spawn(m, g, [self()]), monitor(process, C), receive z -> 1 end", "g(P) -> P.")
        self.assertEqual([go], self.tried(told, (go, go)))
        self.assertEqual([child], self.tried(told, (go, go, go)))
        self.assertEqual([child, ("come", (), (1,))], self.tried(told, (go, go, go, child)))
        # Nor is who ends while another one may tell whether that was so: by a tie, a name, a watch that is on the way.
        told = one("C = spawn_link(m, g, [self()]), process_flag(trap_exit, true), receive z -> 1 end", "g(P) -> receive z -> P after 0 -> 2 end.")
        self.assertEqual([child, ("come", (), (1,))][:1], self.tried(told, (go, go, go, child, child))[:1])
        told = one("spawn(m, g, [self()]), spawn(m, h, []), 1", "g(P) -> register(a, self()), P. h() -> whereis(a).")
        ends = (go, go, go, go, child, child, ("go", (2,)))
        self.assertEqual([child, ("go", (2,))], self.tried(told, ends))
        told = one("C = spawn(m, g, []), monitor(process, C)", "g() -> 1.")
        self.assertEqual([child, ("come", (), (1,))], self.tried(told, (go, go, go, go, child)))
        told = one("C = spawn_link(m, g, []), D = spawn_link(m, g, []), C, D, receive z -> 1 end", "g() -> 1.")
        self.assertEqual([child, ("go", (2,))], self.tried(told, (go, go, go, child, ("go", (2,)))))
        # A letter to oneself stands in the box ahead of those that come later, or behind them.
        told = one("spawn(m, g, [self()]), self() ! a, receive X -> X end", "g(P) -> P ! b.")
        self.assertEqual([go, ("come", (1,), ())], self.tried(told, (go, go, child, child, child)))
        # Letters that no receive may take come at once; those with functions may be what somebody asks for.
        told = one("spawn(m, g, [self()]), receive a -> 1 after 1 -> self() ! z, 1 end", "g(P) -> P ! b, P ! {a}, P ! [fun g/1], P ! a.")
        begin, come = (go, go, go, *((child,) * 6)), ("come", (1,), ())
        self.assertEqual([come], self.tried(told, begin))
        self.assertEqual([come], self.tried(told, (*begin, come)))
        self.assertEqual([come, TICK], self.tried(told, (*begin, come, come)))
        self.assertEqual([go], self.tried(told, (*begin, come, TICK, ("come", "clock", ()), go)))
        self.assertEqual(2, len(system("-module(m).", "-module(n).").modules))


if __name__ == "__main__":
    unittest.main()
