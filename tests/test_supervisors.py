"""Section 20: plans, what is begun and ended by them, the fewest falls; and supervisors as they run."""

import itertools
import random
import unittest

from arrivalmill.errors import BadFalls, BadPlan
from arrivalmill.looker import is_sound
from arrivalmill.reading import Module
from arrivalmill.supervisors import fewest_falls, shape, text
from arrivalmill.termtext import read_term, term_text
from arrivalmill.weavings import System, steps_next, story
from arrivalmill.world import world_begun
from tests.housing import ASK, SUPERVISOR, drawn_falls, drawn_plan, places_in, plan_at, run, workers
from tests.systems import led, world_of
from tests.values import NO_TERMS


def plan(text):
    return read_term(text)


def child(name, stay="always", limit="3"):
    return "{" + ",".join((name, stay, limit, "{worker,m,f}")) + "}"


def keeper(name, inner, stay="always"):
    return "{" + name + "," + stay + ",long,{keeper," + inner + "}}"


def begin(*places, at=0):
    return tuple(("begin", at, tuple(place.split("/")) if place else ()) for place in places)


def end(place, reason, at=0):
    return ("end", at, tuple(place.split("/")) if place else (), reason)


def struck(place, at=0):
    return ("struck", at, tuple(place.split("/")))


THREE = "[" + child("a", limit="kill") + "," + child("b", "faults") + "," + child("c", "never") + "]"


class Shapes(unittest.TestCase):
    def rows(self, text, *falls):
        """What happens behind the beginning."""
        told = plan(text)
        many = len(shape(told, ())[0])
        rows, stands = shape(told, tuple((moment, tuple(place.split("/")), reason) for moment, place, reason in falls))
        return rows[many:], stands

    def test_the_worked_example(self):
        told = plan("{rest,1,5,[{a,always,kill,{worker,m,f}},{b,faults,3,{worker,m,f}},{c,never,3,{worker,m,f}}]}")
        self.assertEqual((("end", 2, ("b",), "bad"), ("end", 2, ("c",), "shutdown"), ("struck", 2, ("c",)), ("begin", 2, ("b",))), shape(told, ((2, ("b",), "bad"),))[0][4:])

    def test_beginning(self):
        inner = "{one,0,1,[" + child("x") + "," + keeper("y", "{one,0,1,[" + child("z") + "]}") + "]}"
        rows, stands = shape(plan("{one,1,5,[" + child("a") + "," + keeper("k", inner) + "," + child("b") + "]}"), ())
        self.assertEqual(begin("", "a", "k", "k/x", "k/y", "k/y/z", "b"), rows)
        self.assertEqual(((), ("a",), ("b",), ("k",), ("k", "x"), ("k", "y"), ("k", "y", "z")), stands)
        self.assertEqual((begin(""), ((),)), shape(plan("{one,0,1,[]}"), ()))

    def test_ways(self):
        self.assertEqual(((end("b", "bad", 2), *begin("b", at=2)), ((), ("a",), ("b",), ("c",))), self.rows("{one,1,5," + THREE + "}", (2, "b", "bad")))
        self.assertEqual((end("b", "bad", 2), end("c", "shutdown", 2), struck("c", 2), *begin("b", at=2)), self.rows("{rest,1,5," + THREE + "}", (2, "b", "bad"))[0])
        self.assertEqual((end("b", "bad", 2), end("c", "shutdown", 2), struck("c", 2), end("a", "killed", 2), *begin("a", "b", at=2)), self.rows("{all,1,5," + THREE + "}", (2, "b", "bad"))[0])
        self.assertEqual((end("a", "bad", 2), end("c", "shutdown", 2), struck("c", 2), end("b", "shutdown", 2), *begin("a", "b", at=2)), self.rows("{rest,1,5," + THREE + "}", (2, "a", "bad"))[0])

    def test_stays(self):
        for stay, reason, again in (("always", "bad", True), ("always", "normal", True), ("always", "shutdown", True), ("faults", "bad", True), ("faults", "killed", True), ("faults", "normal", False), ("faults", "shutdown", False), ("never", "bad", False), ("never", "normal", False)):
            rows, stands = self.rows("{one,5,5,[" + child("a", stay) + "]}", (1, "a", reason), (2, "a", "bad"))
            self.assertEqual((end("a", reason, 1), *(begin("a", at=1) if again else (struck("a", 1),))), rows[:2])
            self.assertEqual(4 if again else 2, len(rows))
            self.assertEqual(((), ("a",)) if again else ((),), stands)

    def test_limits(self):
        two = "[" + child("a") + "," + child("b", limit="kill") + "," + child("c", limit="0") + "]"
        self.assertEqual((end("a", "x", 4), end("c", "shutdown", 4), end("b", "killed", 4), end("", "shutdown", 4)), self.rows("{one,0,1," + two + "}", (4, "a", "x"))[0])

    def test_spans(self):
        for span, moments, gives_up in ((1, (3, 3), True), (1, (3, 4), False), (2, (3, 4), True), (5, (3, 7), True), (5, (3, 8), False), (60, (0, 59), True), (60, (0, 60), False)):
            rows, stands = self.rows("{one,1," + str(span) + ",[" + child("a") + "]}", *[(moment, "a", "bad") for moment in moments])
            self.assertEqual(() if gives_up else ((), ("a",)), stands, (span, moments))
        rows, stands = self.rows("{one,2,4,[" + child("a") + "," + child("b") + "]}", (0, "a", "x"), (2, "b", "x"), (4, "a", "x"), (5, "b", "x"))
        self.assertEqual((), stands)
        self.assertEqual((end("b", "x", 5), end("a", "shutdown", 5), end("", "shutdown", 5)), rows[-3:])
        self.assertEqual(((), ("a",), ("b",)), self.rows("{one,2,3,[" + child("a") + "," + child("b") + "]}", (0, "a", "x"), (2, "b", "x"), (4, "a", "x"), (5, "b", "x"))[1])

    def test_none_is_struck_when_it_gives_up(self):
        self.assertEqual(((end("b", "x", 1), end("c", "shutdown", 1), end("a", "killed", 1), end("", "shutdown", 1)), ()), self.rows("{all,0,5," + THREE + "}", (1, "b", "x")))

    def test_level_by_level(self):
        inner = "{one,0,5,[" + child("x") + "," + child("y") + "]}"
        for stay, wanted in (("always", begin("k", "k/x", "k/y", at=3)), ("faults", (struck("k", 3),)), ("never", (struck("k", 3),))):
            rows, stands = self.rows("{one,1,5,[" + child("a") + "," + keeper("k", inner, stay) + "]}", (3, "k/x", "x"), (4, "k/y", "x"))
            self.assertEqual((end("k/x", "x", 3), end("k/y", "shutdown", 3), end("k", "shutdown", 3), *wanted), rows[:3 + len(wanted)])
            self.assertEqual({"always": ()}.get(stay, ((), ("a",))), stands)

    def test_a_keeper_that_is_begun_again_has_counted_none(self):
        inner = "{one,1,9,[" + child("x") + "," + child("z", "never") + "]}"
        rows, stands = self.rows("{all,5,60,[" + child("a") + "," + keeper("k", inner) + "]}", (1, "k/x", "b"), (2, "k/z", "b"), (3, "a", "b"), (4, "k/x", "b"))
        self.assertEqual((end("k/x", "b", 1), *begin("k/x", at=1), end("k/z", "b", 2), struck("k/z", 2), end("a", "b", 3), end("k/x", "shutdown", 3), end("k", "shutdown", 3), *begin("a", "k", "k/x", "k/z", at=3), end("k/x", "b", 4), *begin("k/x", at=4)), rows)
        self.assertEqual(((), ("a",), ("k",), ("k", "x"), ("k", "z")), stands)

    def test_keepers_are_ended_wholly(self):
        inner = "{one,1,9,[" + child("x") + "," + child("y", limit="kill") + "]}"
        rows, _ = self.rows("{rest,1,9,[" + child("a") + "," + keeper("k", inner, "never") + "," + child("b") + "]}", (1, "a", "b"))
        self.assertEqual((end("a", "b", 1), end("b", "shutdown", 1), end("k/y", "killed", 1), end("k/x", "shutdown", 1), end("k", "shutdown", 1), struck("k", 1), *begin("a", "b", at=1)), rows)

    def test_who_does_not_stand_is_passed_by(self):
        rows, stands = self.rows("{one,0,1,[" + child("a", "never") + "]}", (0, "a", "x"), (0, "a", "x"), (5, "a", "x"))
        self.assertEqual(((end("a", "x"), struck("a")), ((),)), (rows, stands))
        self.assertEqual(2, len(self.rows("{one,0,1,[" + child("a") + "]}", (0, "a", "x"), (0, "a", "x"))[0]))

    def test_four_deep(self):
        inner = "{one,0,1,[" + child("w") + "]}"
        for name in ("c", "b", "a"):
            inner = "{one,0,1,[" + keeper(name, inner) + "]}"
        rows, stands = self.rows(inner, (9999, "a/b/c/w", "x"))
        self.assertEqual(((end("a/b/c/w", "x", 9999), end("a/b/c", "shutdown", 9999), end("a/b", "shutdown", 9999), end("a", "shutdown", 9999), end("", "shutdown", 9999)), ()), (rows, stands))
        self.assertRaises(BadPlan, shape, plan("{one,0,1,[" + keeper("z", inner) + "]}"), ())


class Errors(unittest.TestCase):
    def test_what_is_no_plan(self):
        right = "{one,1,5,[" + child("a") + "]}"
        self.assertEqual(2, len(shape(plan(right), ())[0]))
        wrong = ["{one,1,5}", "{one,1,5,[],1}", "{both,1,5,[]}", "{1,1,5,[]}", "{one,6,5,[]}", "{one,-1,5,[]}", "{one,a,5,[]}", "{one,1,0,[]}", "{one,1,61,[]}", "{one,1,5,{}}", "{one,1,5,a}", "{one,1,5,[a|b]}", "[one,1,5,[]]", "a", "{}", "1", "{one,1,5,[" + ",".join(child(name) for name in "abcdefg") + "]}",
                 "{one,1,5,[" + child("a") + "," + child("a") + "]}"]
        for part in ("{a,always,3}", "{1,always,3,{worker,m,f}}", "{a,some,3,{worker,m,f}}", "{a,always,61,{worker,m,f}}", "{a,always,-1,{worker,m,f}}", "{a,always,long,{worker,m,f}}", "{a,always,foo,{worker,m,f}}", "{a,always,3,{worker,m,1}}", "{a,always,3,{worker,1,f}}", "{a,always,3,{worker,m}}", "{a,always,3,{worker,m,f,1}}",
                     "{a,always,3,worker}", "{a,always,3,{keeper,{one,0,1,[]}}}", "{a,always,kill,{keeper,{one,0,1,[]}}}", "{a,always,long,{keeper,{one,0,1}}}", "{a,always,long,{keeper,a}}", "{a,always,long,{keeper}}", "{a,always,long,{other,{one,0,1,[]}}}", "{a,always,3,{worker,m,f},1}", "a", "[a,always,3,{worker,m,f}]"):
            wrong.append("{one,1,5,[" + part + "]}")
        for value in [plan(one) for one in wrong] + list(NO_TERMS):
            for call, arguments in ((shape, (None,)), (fewest_falls, ())):
                with self.assertRaises(BadPlan) as caught:
                    call(value, *arguments)
                self.assertIs(value, caught.exception.value)

    def test_what_are_no_falls(self):
        told = plan("{one,1,5,[" + child("a") + "," + keeper("k", "{one,1,5,[" + child("x") + "]}") + "]}")
        right = (1, ("a",), "bad")
        self.assertEqual(7, len(shape(told, (right, (9999, ("k", "x"), "bad")))[0]) - 2 + 1)
        for value in (None, [right], right, ((1, ("a",)),), ((1, ("a",), "bad", 1),), ([1, ("a",), "bad"],), ((-1, ("a",), "bad"),), ((10000, ("a",), "bad"),), ((True, ("a",), "bad"),), ((1, (), "bad"),), ((1, ("k",), "bad"),), ((1, ("b",), "bad"),), ((1, ("a", "x"), "bad"),), ((1, "a", "bad"),), ((1, ["a"], "bad"),), ((1, (1,), "bad"),),
                      ((1, ("a",), 1),), ((1, ("a",), ("tuple",)),), ((1, ("a",), "no atom"),), ((2, ("a",), "bad"), right), {}, True, "a", (None,)):
            with self.assertRaises(BadFalls) as caught:
                shape(told, value)
            self.assertIs(value, caught.exception.value)


class Fewest(unittest.TestCase):
    def fewest(self, text):
        told = plan(text)
        found = fewest_falls(told)
        if found is not None:
            number, falls = found
            self.assertEqual(number, len(falls))
            self.assertNotIn((), shape(told, falls)[1])
            if number > 1:
                self.assertIn((), shape(told, falls[:-1])[1])
        return None if found is None else found[0]

    def test_numbers(self):
        inner = "{one,2,5,[" + child("x") + "]}"
        for text, wanted in (("{one,0,1,[]}", None), ("{one,0,1,[" + child("a", "never") + "]}", None), ("{one,0,1,[" + child("a") + "]}", 1), ("{one,5,1,[" + child("a", "faults") + "]}", 6), ("{all,3,1,[" + child("a", "never") + "," + child("b") + "]}", 4), ("{one,1,5,[" + keeper("k", inner) + "]}", 6),
                             ("{one,1,5,[" + keeper("k", inner, "faults") + "]}", None), ("{one,1,5,[" + keeper("k", inner, "never") + "]}", None), ("{one,1,5,[" + keeper("k", inner) + "," + child("b", "faults") + "]}", 2), ("{one,1,5,[" + keeper("k", "{one,0,1,[" + keeper("l", inner) + "]}") + "]}", 6),
                             ("{one,0,1,[" + keeper("k", "{one,0,1,[]}") + "]}", None), ("{rest,1,5,[" + keeper("k", inner) + "," + keeper("l", "{one,1,5,[" + child("x") + "]}") + "]}", 4)):
            self.assertEqual(wanted, self.fewest(text), text)

    def test_four_deep(self):
        inner = "{one,5,60,[" + child("w") + "]}"
        for name in ("c", "b", "a"):
            inner = "{one,5,60,[" + keeper(name, inner) + "]}"
        self.assertEqual(6 ** 4, self.fewest(inner))

    def test_against_all_falls(self):
        rng = random.Random(4)
        seen = 0
        for _ in range(150):
            told = drawn_plan(rng, 1, [0], 2)
            places = places_in(told)
            found = fewest_falls(told)
            if len(places) > 3 or (found is not None and found[0] > 4):
                continue
            seen += 1
            least = None
            for many in range(1, 5):
                for falls in itertools.product([(place, reason) for place in places for reason in ("bad", "normal")], repeat=many):
                    if () not in shape(told, tuple((0, *fall) for fall in falls))[1]:
                        least = many
                        break
                if least is not None:
                    break
            self.assertEqual(least, None if found is None else found[0], term_text(told))
        self.assertGreater(seen, 30)

    def test_by_name(self):
        told = plan("{one,0,1,[" + child("a") + "]}")
        self.assertEqual((1, 3), (fewest_falls(plan=told)[0], len(shape(falls=(), plan=told)[0]) + 1))


def has_twins(told):
    """Whether two keepers beside one another have equal plans."""
    inner = [one[4][2] for one in told[4][1:] if one[4][1] == "keeper"]
    return len({term_text(one) for one in inner}) < len(inner) or any(has_twins(one) for one in inner)


class Running(unittest.TestCase):
    def test_it_is_sound(self):
        module = Module(text())
        self.assertEqual("supervisor", module.name)
        self.assertIn(("start", 1), module.exports)
        self.assertTrue(is_sound(module))

    def test_what_processes_begin_and_end_is_what_shape_tells(self):
        rng = random.Random(7)
        given_up = 0
        for _ in range(250):
            count = [0]
            told = drawn_plan(rng, 0, count)
            if has_twins(told):
                continue
            falls = drawn_falls(rng, told, rng.randint(0, 6))
            rows, stands = shape(told, falls)
            got, world, places = run(told, falls, count[0])
            self.assertEqual(tuple(row for row in rows if row[0] != "struck"), got, (term_text(told), falls))
            self.assertEqual(stands, tuple(sorted(places[path] for path in places if not world.doers[path].ended)))
            given_up += () not in stands
        self.assertGreater(given_up, 25)

    def system(self, body, more="", told="{one,1,9,[{a,always,2,{worker,w,w0}},{k,always,long,{keeper,{all,1,9,[{b,never,kill,{worker,w,w1}},{c,faults,3,{worker,w,w2}}]}}},{d,never,2,{worker,w,w3}}]}", extra=""):
        module = Module("-module(m). -export([f/0, g/0]). f() -> Plan = " + told + ", " + body + ". g() -> receive X -> X end. ask(P) -> ask:wait(P, children, infinity). at(P, Name) -> hd([Q || {N, Q} <- ask(P), N == Name]). " + more)
        return System((module, SUPERVISOR, ASK, workers(4, extra)), ("m", "f", ()))

    def ends(self, *arguments, ticks=9, **named):
        told = self.system(*arguments, **named)
        return term_text(story(told, led(told, (), ticks, 3000), ())[-1][1])

    def test_children_are_answered_by_each_keeper(self):
        start = "process_flag(trap_exit, true), {ok, P} = supervisor:start(Plan), "
        self.assertEqual("[{a,true},{k,true},{d,true}]", self.ends(start + "exit([{N, is_pid(Q)} || {N, Q} <- ask(P)])"))
        self.assertEqual("[{b,true},{c,true}]", self.ends(start + "exit([{N, is_pid(Q)} || {N, Q} <- ask(at(P, k))])"))
        self.assertEqual("[{a,true},{k,true},{d,none}]", self.ends(start + "at(P, d) ! {fall, x}, receive after 1 -> 1 end, exit([{N, case Q of none -> none; _ -> is_pid(Q) end} || {N, Q} <- ask(P)])"))
        self.assertEqual("{true,false}", self.ends(start + "A = at(P, a), A ! {fall, x}, receive after 1 -> 1 end, B = at(P, a), exit({is_pid(B), A == B})"))
        self.assertEqual("[]", self.ends(start + "exit(ask(P))", told="{one,0,1,[]}"))

    def test_all_are_begun_ahead_of_its_word(self):
        told = self.system("{ok, P} = supervisor:start(Plan), exit(P)")
        weaving = led(told, (), 0, 3000)
        looks = story(told, weaving, ())
        self.assertEqual(("begin", "tied"), looks[2][:2])
        self.assertEqual(("end", looks[2][2]), looks[-1])
        begun = [look[3][1:] for path in ((1,), (1, 2)) for look in story(told, weaving, path) if look[0] == "begin" and look[3][0] == "call"]
        self.assertEqual([("w", "w0", ()), ("w", "w3", ()), ("w", "w1", ()), ("w", "w2", ())], begun)
        self.assertIn(("trap", True, False), story(told, weaving, (1,)))

    def test_workers_that_do_not_end_are_killed_behind_their_limit(self):
        extra = " trapping() -> process_flag(trap_exit, true), receive {fall, R} -> exit(R) end."
        plan_text = "{all,1,9,[{a,always,2,{worker,w,w0}},{b,always,4,{worker,t,go}}]}"
        trapping = Module("-module(t). -export([go/0]). go() -> process_flag(trap_exit, true), receive {fall, R} -> exit(R) end.")
        module = Module("-module(m). -export([f/0]). f() -> process_flag(trap_exit, true), {ok, P} = supervisor:start(" + plan_text + "), [{a, A}, {b, B}] = ask:wait(P, children, infinity), R = monitor(process, B), S = monotonic_time(), A ! {fall, x}, receive {'DOWN', R, _, _, W} -> exit({W, monotonic_time() - S}) end.")
        told = System((module, SUPERVISOR, ASK, workers(1, extra), trapping), ("m", "f", ()))
        self.assertEqual(("end", ("tuple", "killed", 4)), story(told, led(told, (), 9, 3000), ())[-1])

    def test_the_end_of_the_caller(self):
        for body, reason in (("exit(over)", "over"), ("1", "normal"), ("error(x)", ("tuple", "x", ("list",)))):
            told = self.system("{ok, _} = supervisor:start(Plan), receive after 1 -> 1 end, " + body)
            weaving = led(told, (), 2, 3000)
            world = world_of(told, weaving)
            self.assertEqual([True] * len(world.doers), [world.doers[path].ended for path in sorted(world.doers)])
            self.assertEqual(("end", reason), world.doers[(1,)].story[-1])
            self.assertEqual(["shutdown", "killed", "shutdown", "shutdown"], [world.doers[path].story[-1][1] for path in ((1, 1), (1, 2, 1), (1, 2, 2), (1, 3))])

    def test_an_exit_to_the_top(self):
        told = self.system("process_flag(trap_exit, true), {ok, P} = supervisor:start(Plan), exit(P, why), receive {'EXIT', P, R} -> exit({top, R}) end")
        world = world_of(told, led(told, (), 0, 3000))
        self.assertEqual(("end", ("tuple", "top", "why")), world.doers[()].story[-1])
        self.assertTrue(all(world.doers[path].ended for path in world.doers))
        killed = self.system("process_flag(trap_exit, true), {ok, P} = supervisor:start(Plan), exit(P, kill), receive {'EXIT', P, R} -> exit({top, R}) end")
        self.assertEqual(("end", ("tuple", "top", "killed")), story(killed, led(killed, (), 0, 3000), ())[-1])

    def test_what_it_ends_it_watches(self):
        told = self.system("process_flag(trap_exit, true), {ok, P} = supervisor:start(Plan), at(at(P, k), c) ! {fall, x}, receive after 2 -> 1 end")
        looks = story(told, led(told, (), 2, 3000), (1, 2))
        at = [number for number, look in enumerate(looks) if look[0] == "exit"]
        self.assertEqual([("exit", ("pid", (1, 2, 1)), "kill"), ("exit", ("pid", (1, 2, 3)), "shutdown")], [looks[number] for number in at])
        self.assertEqual("watch", looks[at[0] - 1][0])
        self.assertEqual(("receive", "DOWN"), (looks[at[0] + 1][0], looks[at[0] + 1][1][1]))

    def test_steps_are_there_for_a_start(self):
        self.assertTrue(steps_next(world_begun(self.system("1").texts, ("m", "f", ()))))
        self.assertEqual("{one,0,1,[]}", term_text(plan_at(plan("{one,0,1,[" + keeper("k", "{one,0,1,[]}") + "]}"), ("k",))))


if __name__ == "__main__":
    unittest.main()
