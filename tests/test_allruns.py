"""Section 13: all runs of small systems, and what can be told of them."""

import random
import unittest

from arrivalmill.allruns import (
    all_tellings, alike, can, hanging, shows_alike, shows_all_tellings, shows_can, shows_surely, surely,
)
from arrivalmill.errors import BadNumber, BadPath, BadWish, Endless, TooMany
from arrivalmill.weavings import next_steps, on_way, standing, steps_next, story
from arrivalmill.world import world_after, world_begun
from tests.systems import TICK, one, system

GO, CHILD = ("go", ()), ("go", (1,))
P, C = ("pid", ()), ("pid", (1,))

ORDER = one("S = self(), [spawn(m, g, [S, N]) || N <- [1, 2, 3]], l(3)", "l(0) -> ok; l(N) -> receive X -> X, l(N - 1) end. g(S, N) -> S ! N.")
TIMED = one("S = self(), spawn(m, g, [S]), T = send_after(1, S, t), receive X -> X after 1 -> over end, cancel_timer(T), receive Y -> exit(Y) after 2 -> exit(over) end",
            "g(S) -> receive z -> 1 after 1 -> S ! late end.")
KILLED = one("C = spawn(m, g, [self()]), monitor(process, C), exit(C, kill), receive X -> X end", "g(S) -> S ! hi, link(S), receive Z -> S ! Z end.")
NAMED = one("S = self(), [spawn(m, g, [S]) || _ <- [1, 2]], receive A -> A end, receive B -> B end", "g(S) -> R = (catch register(srv, self())), S ! R, receive z -> 1 after 1 -> 1 end.")
TIED = one("process_flag(trap_exit, true), C = spawn_link(m, g, []), C ! {self(), 1}, receive {C, X} -> X end, C ! stop, receive {'EXIT', _, R} -> R after 2 -> quiet end",
           "g() -> receive {F, N} -> F ! {self(), N + 1}, g(); stop -> exit(done) end.")
UNREAD = one("S = self(), [spawn_monitor(m, g, [S, N]) || N <- [1, 2]], send_after(1, S, never), l(2)",
             "l(0) -> ok; l(N) -> receive {'DOWN', R, _, _, _} -> demonitor(R, [flush]), self() ! {unread}, l(N - 1) end. g(S, N) -> S ! N, S ! {N, N}.")
SMALL = {"unread": UNREAD, "order": ORDER, "timed": TIMED, "killed": KILLED, "named": NAMED, "tied": TIED}


def is_timer_set(world):
    return any(key[0] == "ref" or world.doers[key[1]].waiting == key[2] for key, _, _, _ in world.clock.timers)


def told_by_all(told, ticks):
    """All tellings of whole weavings, by going through all steps that can be done."""
    seen, found, row = set(), set(), [world_begun(told.texts, told.start)]
    while row:
        world = row.pop()
        steps = list(steps_next(world))[:-1]
        if not steps and not is_timer_set(world):
            found.add(tuple((path, world.doers[path].story) for path in sorted(world.doers)))
        if world.clock.now < ticks and is_timer_set(world):
            steps.append(TICK)
        for step in steps:
            behind = world_after(world, step)
            key = repr([(path, doer.story, doer.box, doer.keeps, doer.there and doer.there[:2], doer.waiting, doer.ended, doer.trail)
                        for path, doer in sorted(behind.doers.items())])
            key += repr([(pair, [signal for signal, _ in rows]) for pair, rows in sorted(behind.on_way.items(), key=repr)])
            key += repr((behind.clock.now, behind.clock.timers, behind.names, behind.shelf.standing, behind.shelf.came))
            if key not in seen:
                seen.add(key)
                row.append(behind)
    return found


class AllTellings(unittest.TestCase):
    def test_small_systems(self):
        for word, told in SMALL.items():
            for ticks in (0, 1, 2):
                wanted = told_by_all(told, ticks)
                rows = all_tellings(told, ticks, 300)
                self.assertEqual(len(rows), len(wanted), word)
                self.assertEqual(wanted, {telling for telling, _ in rows})
                for telling, weaving in rows:
                    self.assertEqual(telling, tuple((row[0], story(told, weaving, row[0])) for row in standing(told, weaving)))
                    self.assertEqual((TICK,), next_steps(told, weaving))
                    self.assertEqual((), on_way(told, weaving))
                    self.assertLessEqual(weaving.count(TICK), ticks)
                self.assertTrue(shows_all_tellings(told, ticks, 300, rows))
                self.assertTrue(shows_all_tellings(told, ticks, 300, rows[::-1]))
        self.assertEqual(6, len(all_tellings(ORDER, 0, 6)))

    def test_drawn(self):
        rng = random.Random(61)
        for _ in range(60):
            told = drawn(rng)
            ticks = rng.choice((0, 1, 1))
            rows = all_tellings(told, ticks, 300)
            self.assertEqual(told_by_all(told, ticks), {telling for telling, _ in rows})

    def test_what_others_ask_of_a_process(self):
        # Whether it holds an edition, and what is gone when it calls: nothing in its story tells so far.
        two = ("-module(v). -export([mk/0]). mk() -> fun () -> ok end.", "-module(v).")
        told = system("-module(m). -export([f/0, g/1]). f() -> B = spawn(m, g, [self()]), B ! v:mk(), load(v, 1), soft_purge(v), receive X -> X end. g(P) -> receive F -> X = (catch F()), P ! X end.", *two)
        for part in (told, system("-module(m). -export([f/0, g/1]). f() -> B = spawn(m, g, [self()]), B ! v:mk(), load(v, 1), exit({purge(v), receive X -> X after 0 -> none end}). "
                                  "g(P) -> receive F -> X = (catch F()), P ! X end.", *two),
                     system("-module(m). -export([f/0, g/1]). f() -> spawn(m, g, [v:mk()]), load(v, 1), exit(soft_purge(v)). g(F) -> self() ! a, self() ! b, F, self() ! c.", *two)):
            wanted = told_by_all(part, 0)
            self.assertEqual(wanted, {telling for telling, _ in all_tellings(part, 0, 300)})
            self.assertLess(1, len(wanted))

    def test_other_weavings_are_right(self):
        told = one("C = spawn(fun () -> receive X -> X end end), C ! a, self() ! b")
        telling, weaving = all_tellings(told, 0, 5)[0]
        self.assertEqual(1, len(all_tellings(told, 0, 1)))
        come = ("come", (), (1,))
        for other in ((GO, GO, GO, GO, GO, come, CHILD, CHILD), (GO, GO, GO, come, CHILD, CHILD, GO, GO), weaving):
            self.assertTrue(shows_all_tellings(told, 0, 5, ((telling, other),)))
        whole = (GO, GO, GO, GO, GO, come, CHILD, CHILD)
        for wrong in (whole[:-1], (*whole, TICK), list(whole), None, (), (*whole[:-1], GO), whole[:6]):
            self.assertFalse(shows_all_tellings(told, 6, 5, ((telling, wrong),)))
        for value in (None, (), [(telling, weaving)], ((telling, weaving), (telling, whole)), ((telling, weaving, 1),), (([telling], weaving),), ([telling, weaving],),
                      ((telling[::-1], weaving),), ((telling[:1], weaving),), (((telling[0], ((1,), [*telling[1][1]])), weaving),), (1,), ((None, weaving),)):
            self.assertFalse(shows_all_tellings(told, 0, 5, value), value)

    def test_bent_tellings(self):
        for told, ticks in ((TIMED, 2), (KILLED, 0)):
            rows = all_tellings(told, ticks, 300)
            self.assertTrue(shows_all_tellings(told, ticks, 300, rows))
            self.assertFalse(shows_all_tellings(told, ticks, 300, rows[1:]))
            self.assertFalse(shows_all_tellings(told, ticks, 300, (*rows, rows[0])))
            self.assertFalse(shows_all_tellings(told, ticks, 300, (*rows[1:], rows[1])))
            self.assertFalse(shows_all_tellings(told, ticks, 300, ((rows[0][0], rows[1][1]), *rows[1:])))
        told = one("monotonic_time(), process_flag(trap_exit, true)")
        (telling, weaving), = all_tellings(told, 0, 1)
        bent = lambda at, look: (((), (*telling[0][1][:at], look, *telling[0][1][at + 1:])),)
        self.assertTrue(shows_all_tellings(told, 0, 1, ((bent(1, ("clock", 0)), weaving),)))
        for at, look in ((1, ("clock", False)), (2, ("trap", 1, False)), (2, ("trap", True, 0)), (0, ("full", "m", "f", 0, True))):
            self.assertFalse(shows_all_tellings(told, 0, 1, ((bent(at, look), weaving),)))

    def test_ticks(self):
        told = one("receive z -> 1 after 2 -> exit(monotonic_time()) end")
        self.assertEqual((), all_tellings(told, 1, 5))
        rows = all_tellings(told, 3, 5)
        self.assertEqual([("end", 2), ("end", 3)], sorted(telling[0][1][-1] for telling, _ in all_tellings(
            one("S = self(), send_after(3, S, y), receive z -> 1 after 2 -> exit(monotonic_time()) end"), 3, 5)))
        self.assertEqual([("end", 2)], [telling[0][1][-1] for telling, _ in rows])
        weaving = rows[0][1]
        self.assertTrue(shows_all_tellings(told, 3, 5, rows))
        # A tick comes only while a timer is set.
        self.assertFalse(shows_all_tellings(told, 3, 5, ((rows[0][0], (*weaving, TICK)),)))
        self.assertFalse(shows_all_tellings(told, 3, 5, ((rows[0][0], (TICK, *weaving)),)))

    def test_a_wait_that_goes_on_lets_ticks_come(self):
        told = one("send_after(1, self(), a), receive a -> exit(done) after 3 -> late end")
        begin = (GO, GO, GO)
        rows = all_tellings(told, 1, 5)
        waits = [row for row in rows if ("wait", 3) in row[0][0][1]]
        self.assertEqual((2, 1), (len(rows), len(waits)))
        rest = [row for row in rows if row not in waits]
        come = ("come", "clock", ())
        for ticks, right in ((1, True), (2, False)):
            other = (*begin, *((TICK,) * ticks), come, GO, GO)
            self.assertEqual(right, shows_all_tellings(told, 1, 5, (*rest, (waits[0][0], other))))
            self.assertEqual(right, shows_can(told, ("looks", (), ("wait", 3)), 1, 5, ("weaving", other)))
        set_one = one("send_after(3, self(), x)")
        (telling, weaving), = all_tellings(set_one, 3, 5)
        self.assertTrue(shows_all_tellings(set_one, 3, 5, ((telling, weaving),)))
        self.assertFalse(shows_all_tellings(set_one, 3, 5, ((telling, begin),)))

    def test_too_many(self):
        for most in range(1, 8):
            if most < 6:
                for call in (lambda: all_tellings(ORDER, 0, most), lambda: can(ORDER, ("waits", ()), 0, most), lambda: surely(ORDER, ("waits", ()), 0, most),
                             lambda: hanging(ORDER, 0, most), lambda: alike(ORDER, TIED, (), 0, most), lambda: alike(TIED, ORDER, (), 0, most),
                             lambda: shows_all_tellings(ORDER, 0, most, None), lambda: shows_can(ORDER, ("waits", ()), 0, most, None),
                             lambda: shows_surely(ORDER, ("waits", ()), 0, most, None), lambda: shows_alike(TIED, ORDER, (), 0, most, None)):
                    with self.assertRaises(TooMany) as caught:
                        call()
                    self.assertEqual(most, caught.exception.value)
            else:
                self.assertEqual(6, len(all_tellings(ORDER, 0, most)))

    def test_endless(self):
        row = "l(0) -> ok; l(N) -> self() ! a, receive a -> l(N - 1) end."
        self.assertEqual(60, len(all_tellings(one("l(29)", row), 0, 1)[0][0][0][1]))
        for body in ("self() ! a, l(29)", "C = spawn(fun () -> receive x -> l(1000000) end end), C ! x, exit(C, kill)"):
            with self.assertRaises(Endless) as caught:
                all_tellings(one(body, row), 0, 300)
            self.assertEqual(60, caught.exception.value)
        # One weaving that is too long is enough, though it is never whole.
        told = one("send_after(5, self(), x), l(40)", row)
        self.assertRaises(Endless, all_tellings, told, 0, 300)

    def test_numbers(self):
        for ticks in (-1, 7, True, None, "1", (1,)):
            for call in (lambda: all_tellings(ORDER, ticks, 0), lambda: hanging(ORDER, ticks, 0), lambda: can(ORDER, ("waits", ()), ticks, 0),
                         lambda: surely(ORDER, ("waits", ()), ticks, 0), lambda: alike(ORDER, ORDER, (), ticks, 0), lambda: shows_all_tellings(ORDER, ticks, 0, 1)):
                with self.assertRaises(BadNumber) as caught:
                    call()
                self.assertIs(ticks, caught.exception.value)
        for most in (0, 301, -1, True, None):
            for call in (lambda: all_tellings(ORDER, 6, most), lambda: hanging(ORDER, 0, most), lambda: shows_can(ORDER, ("waits", ()), 0, most, 1)):
                with self.assertRaises(BadNumber) as caught:
                    call()
                self.assertIs(most, caught.exception.value)
        self.assertEqual(6, len(all_tellings(ORDER, 6, 300)))


PIECES = ("P ! {1}", "P ! a", "self() ! own", "receive _ -> 1 end", "receive a -> 1 after 1 -> 2 end", "receive {_} -> 1 after 0 -> 2 end", "link(P)", "unlink(P)",
          "process_flag(trap_exit, true)", "monitor(process, P)", "exit(P, bad)", "exit(P, kill)", "exit(self(), foo)", "catch register(nm, P)", "catch nm ! via",
          "whereis(nm)", "send_after(1, P, tm)", "monotonic_time()", "cancel_timer(start_timer(1, self(), tt))", "exit(done)", "spawn_link(m, h, [self()]) ! z",
          "load(v, 0)", "catch v:w()", "soft_purge(v)", "purge(v)", "catch (v:mk())()", "delete(v)")


def drawn(rng):
    """A small system of pieces by random."""
    first = rng.choice(("spawn(m, g, [self()])", "spawn_link(m, g, [self()])", "element(1, spawn_monitor(m, g, [self()]))"))
    pieces = rng.sample(PIECES, 7)
    text = lambda size: ", ".join(rng.choice(pieces) for _ in range(size))
    return system("-module(m). -export([f/0, g/1, h/1]). f() -> P = " + first + ", " + text(2) + ". g(P) -> " + text(2) + ", P. h(P) -> P, " +
                  ", ".join(rng.choice(PIECES[:12]) for _ in range(1)) + ".",
                  "-module(v). -export([w/0, mk/0]). w() -> self() ! w. mk() -> fun () -> self() ! vv, receive vv -> 1 end end.")


ENDED = ("ends", (), "normal")


class Wishes(unittest.TestCase):
    # A child that waits for one of two letters, and is sent both, the one by a third process.
    HANG = one("C = spawn(m, g, [self()]), spawn(m, h, [C]), C ! a, receive X -> exit(X) end", "g(P) -> receive X -> P ! X end, receive b -> exit(fine) end. h(C) -> C ! b.")

    def test_can(self):
        for wish, may in ((("ends", (), "a"), True), (("ends", (), "b"), True), (("ends", (), "c"), False), (("waits", (1,)), True), (("ends", (1,), "fine"), True),
                          (("waits", ()), False), (("waits", (9,)), False), (("ends", (9,), "a"), False), (("looks", (1,), ("receive", "b")), True),
                          (("looks", (1,), ("receive", "c")), False), (("looks", (9,), ("receive", "b")), False), (("looks", (), ()), False),
                          (("looks", (2,), ("full", "m", "h", 1, 1)), True), (("ends", (1,), P), False), (("looks", (2,), ("full", "m", "h", True, 1)), False),
                          (("both", ("ends", (), "a"), ("ends", (1,), "fine")), True), (("both", ("ends", (), "b"), ("ends", (1,), "fine")), False),
                          (("both", ("ends", (), "b"), ("waits", (1,))), True), (("not", ("either", ("ends", (), "a"), ("ends", (), "b"))), False),
                          (("either", ("ends", (), "c"), ("waits", (1,))), True), (("not", ("waits", (9,))), True), (("ends", (2,), "normal"), True)):
            told = can(self.HANG, wish, 0, 300)
            self.assertEqual(("weaving" if may else "never"), told[0], wish)
            self.assertTrue(shows_can(self.HANG, wish, 0, 300, told))
            if not may:
                self.assertEqual(("never", 2), told)
                self.assertEqual(("surely", 2), surely(self.HANG, ("not", wish), 0, 300))
            opposite = surely(self.HANG, ("not", wish), 0, 300)
            self.assertTrue(shows_surely(self.HANG, ("not", wish), 0, 300, opposite))
            self.assertEqual("not" if may else "surely", opposite[0])
        self.assertEqual(((1,),), hanging(self.HANG, 0, 300))
        self.assertEqual((), hanging(ORDER, 0, 300))
        self.assertEqual(((), (1,)), hanging(one("spawn(fun () -> receive z -> 1 end end), receive z -> 1 end"), 0, 300))

    def test_shown_values(self):
        wish = ("ends", (), "a")
        weavings = [weaving for _, weaving in all_tellings(self.HANG, 0, 300)]
        good = [weaving for weaving in weavings if story(self.HANG, weaving, ())[-1] == ("end", "a")][0]
        bad = [weaving for weaving in weavings if weaving != good][0]
        self.assertTrue(shows_can(self.HANG, wish, 0, 300, ("weaving", good)))
        self.assertTrue(shows_surely(self.HANG, wish, 0, 300, ("not", bad)))
        for value in (None, ("weaving", bad), ("weaving", good[:-1]), ["weaving", good], ("weaving", list(good)), ("never", 2), ("not", good), ("weaving",), ("weaving", (*good, TICK)),
                      ("weaving", None), ("weaving", good, 1)):
            self.assertFalse(shows_can(self.HANG, wish, 0, 300, value), value)
        for value in (None, ("not", good), ("surely", 2), ("not", bad[:-1]), ("weaving", bad), ["not", bad], ("not", ())):
            self.assertFalse(shows_surely(self.HANG, wish, 0, 300, value), value)
        never, always = ("ends", (), "c"), ("not", ("ends", (), "c"))
        self.assertTrue(shows_can(self.HANG, never, 0, 300, ("never", 2)) and shows_surely(self.HANG, always, 0, 300, ("surely", 2)))
        for value in (("never", 1), ("never", True), ["never", 2], ("weaving", good), ("surely", 2), None):
            self.assertFalse(shows_can(self.HANG, never, 0, 300, value))
        for value in (("surely", 1), ("surely", 3), ["surely", 2], ("not", good), None):
            self.assertFalse(shows_surely(self.HANG, always, 0, 300, value))
        one_only = one("1")
        self.assertTrue(shows_can(one_only, ("waits", ()), 0, 1, ("never", 1)))
        self.assertFalse(shows_can(one_only, ("waits", ()), 0, 1, ("never", True)))

    def test_bad_wishes(self):
        deep = ENDED
        for _ in range(9):
            deep = ("not", deep)
        self.assertEqual(("never", 1), can(one("1"), deep, 0, 1))
        row = ENDED
        for _ in range(9):
            row = ("both", ENDED, row)
        self.assertEqual("weaving", can(one("1"), row, 0, 1)[0])
        for wish in (None, (), (["ends"], (), "a"), ["ends", (), "a"], ("ends", ()), ("ends", (), "a b"), ("ends", [], "a"), ("ends", (0,), "a"), ("ends", (), "a", 1), ("ends", (), True), ("waits",),
                     ("waits", (), 1), ("waits", "x"), ("looks", (), ["end"]), ("looks", (), "end"), ("looks", (), None), ("both", ENDED), ("both", ENDED, 1), ("not", ENDED, ENDED),
                     ("not", None), ("either", ENDED, ("wait", ())), ("wait", ()), (1, ()), ("not", deep), ("both", deep, ENDED), ("either", ENDED, ("not", deep)), "waits", ("not", ["waits", ()])):
            for call in (lambda: can(ORDER, wish, None, None), lambda: surely(ORDER, wish, None, None), lambda: shows_can(ORDER, wish, 0, 0, None), lambda: shows_surely(ORDER, wish, 7, 1, 1)):
                with self.assertRaises(BadWish) as caught:
                    call()
                self.assertIs(wish, caught.exception.value)

    def test_alike(self):
        swapped = one("S = self(), [spawn(m, g, [S, N]) || N <- [3, 1, 2]], l(3)", "l(0) -> ok; l(N) -> receive X -> X, l(N - 1) end. g(S, N) -> S ! N.")
        self.assertEqual("parts", alike(ORDER, swapped, (1,), 0, 300)[0])
        self.assertEqual(("alike", 1), alike(ORDER, swapped, (9,), 0, 300))
        one_order = one("S = self(), spawn(fun () -> S ! a end), spawn(fun () -> S ! b end), receive X -> exit(X) end")
        other_order = one("S = self(), spawn(fun () -> S ! b end), spawn(fun () -> S ! a end), receive X -> exit(X) end")
        self.assertEqual(2, len(all_tellings(one_order, 0, 9)))
        told = alike(one_order, other_order, (), 0, 300)
        self.assertEqual("alike", alike(one_order, one_order, (), 0, 300)[0])
        self.assertEqual(("alike", 2), told)
        self.assertTrue(shows_alike(one_order, other_order, (), 0, 300, told))

    def test_alike_one_way(self):
        more = one("S = self(), spawn(m, g, [S, a]), spawn(m, g, [S, b]), receive X -> exit(X) end", "g(S, X) -> S ! X.")
        less = one("S = self(), spawn(m, g, [S, a]), spawn(m, g, [S, b]), receive a -> exit(a) end", "g(S, X) -> S ! X.")
        for pair, number in (((more, less), 0), ((less, more), 1)):
            told = alike(*pair, (), 0, 300)
            self.assertEqual(("parts", number), told[:2])
            self.assertEqual(("end", "b"), story(more, told[2], ())[-1])
            self.assertTrue(shows_alike(*pair, (), 0, 300, told))
            for value in (("parts", 1 - number, told[2]), ("alike", 1), ("parts", number, told[2][:-1]), list(told), ("parts", bool(number), told[2]), ("parts", number), None,
                          ("parts", number, [w for t, w in all_tellings(more, 0, 9) if t[0][1][-1] == ("end", "a")][0]), ("parts", number, None), ("parts", 2, told[2]), ("alike", number, told[2]), (*told, 1)):
                self.assertFalse(shows_alike(*pair, (), 0, 300, value), value)
        self.assertEqual(("alike", 1), alike(more, less, (1,), 0, 300))
        self.assertTrue(shows_alike(more, less, (1,), 0, 300, ("alike", 1)))
        for value in (("alike", True), ("alike", 2), ["alike", 1], None, ("parts", 0, ())):
            self.assertFalse(shows_alike(more, less, (1,), 0, 300, value))
        for path in (None, [1], (0,), "x", (True,)):
            for call in (lambda: alike(more, less, path, None, None), lambda: shows_alike(more, less, path, 7, 0, None)):
                with self.assertRaises(BadPath) as caught:
                    call()
                self.assertIs(path, caught.exception.value)


if __name__ == "__main__":
    unittest.main()
