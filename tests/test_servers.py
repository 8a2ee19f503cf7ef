"""Section 19: asking, servers, and machines of states, in the language itself."""

import random
import unittest

from arrivalmill.errors import BadLetters, BadRow, BadTable, BadTerm, BadTime
from arrivalmill.looker import is_sound, look_over
from arrivalmill.reading import Module
from arrivalmill.servers import outcome, served, texts
from arrivalmill.termtext import read_term, term_text
from arrivalmill.weavings import System, standing, steps_next, story
from arrivalmill.world import world_after, world_begun
from tests.systems import TICK, led, walked, world_of
from tests.values import NO_TERMS

ASK, SERVER, STATES = (Module(text) for text in texts())
REF = ("ref", (), 1)
P = ("pid", (1,))


def system(text, more=(), start=("m", "f", ())):
    return System((Module(text), ASK, SERVER, STATES, *(Module(one) for one in more)), start)


def ends(told, ticks=0, path=()):
    """The reason with which a process ends when all is led on; None if it does not."""
    looks = story(told, led(told, (), ticks, 2000), path)
    return term_text(looks[-1][1]) if looks and looks[-1][0] == "end" else None


def down(reason, ref=REF, what=P):
    return ("tuple", "DOWN", ref, "process", what, reason)


def answer(term, ref=REF):
    return ("tuple", ref, term)


class Texts(unittest.TestCase):
    def test_they_are_sound_and_export_what_they_tell(self):
        told = texts()
        self.assertIsInstance(told, tuple)
        self.assertTrue(all(isinstance(text, str) for text in told))
        self.assertEqual(["ask", "server", "states"], [module.name for module in (ASK, SERVER, STATES)])
        self.assertTrue({("wait", 3), ("answer", 2), ("tell", 2)} <= set(ASK.exports))
        self.assertIn(("start", 2), SERVER.exports)
        self.assertIn(("start", 2), STATES.exports)
        for module in (ASK, SERVER, STATES):
            self.assertTrue(is_sound(module), look_over(module))


class Asking(unittest.TestCase):
    def asked(self, child, more="", time="infinity", ticks=0, ahead=""):
        return ends(system("-module(m). -export([f/0, g/0]). f() -> P = spawn(m, g, []), " + ahead + " exit({got, catch ask:wait(P, what, " + time + ")" + more + "}). g() -> " + child + "."), ticks)

    def test_outcomes(self):
        self.assertEqual("{got,{yes,what}}", self.asked("receive {ask, Who, What} -> ask:answer(Who, {yes, What}) end"))
        self.assertEqual("{got,{'EXIT',boom}}", self.asked("receive after 1 -> exit(boom) end", ticks=1))
        self.assertEqual("{got,{'EXIT',boom}}", self.asked("receive {ask, Who, What} -> exit(boom) end"))
        self.assertEqual("{got,{'EXIT',normal}}", self.asked("receive X -> 1 end"))
        self.assertEqual("{got,{'EXIT',timeout}}", self.asked("receive never -> 1 end", time="2", ticks=2))
        self.assertIsNone(self.asked("receive never -> 1 end", time="2", ticks=1))
        self.assertIsNone(self.asked("receive never -> 1 end", ticks=5))
        self.assertEqual("{got,{'EXIT',timeout}}", self.asked("receive never -> 1 end", time="0"))
        self.assertEqual("{got,{'EXIT',noproc}}", self.asked("1", ahead="receive after 1 -> 1 end,", ticks=1))

    def test_names(self):
        told = system("-module(m). -export([f/0, g/0]). f() -> spawn(m, g, []), receive after 1 -> 1 end, exit({catch ask:wait(me, a, infinity), catch ask:wait(nobody, a, 5), catch ask:wait(undefined, a, 0)}). g() -> register(me, self()), receive {ask, Who, _} -> ask:answer(Who, 5) end.")
        self.assertEqual("{5,{'EXIT',noproc},{'EXIT',noproc}}", ends(told, 1))
        self.assertEqual((), [row for row in standing(told, led(told, (), 1)) if row[0] == ()][0][2])

    def test_what_is_seen(self):
        told = system("-module(m). -export([f/0, g/0]). f() -> P = spawn(m, g, []), ask:wait(P, what, 5), ask:tell(P, news). g() -> receive {ask, {P, R}, what} -> ask:answer({P, R}, fine) end, receive {tell, X} -> exit(X) end.")
        weaving = led(told)
        looks, child = story(told, weaving, ()), ("pid", (1,))
        self.assertIn(("watch", REF, child, child), looks)
        self.assertIn(("send", child, ("tuple", "ask", ("tuple", ("pid", ()), REF), "what")), looks)
        self.assertIn(("receive", answer("fine")), looks)
        self.assertIn(("unwatch", REF, True), looks)
        self.assertIn(("send", child, ("tuple", "tell", "news")), looks)
        self.assertEqual(("end", "news"), story(told, weaving, (1,))[-1])

    def test_answer_and_tell_come_to_ok(self):
        told = system("-module(m). -export([f/0]). f() -> exit({ask:answer({self(), tag}, 5), ask:tell(self(), 6), receive {tag, X} -> X end, receive {tell, Y} -> Y end}).")
        self.assertEqual("{ok,ok,5,6}", ends(told))

    def test_the_watch_is_taken_off_and_late_answers_stay(self):
        told = system("-module(m). -export([f/0, g/0]). f() -> P = spawn(m, g, []), T = (catch ask:wait(P, 1, 1)), receive after 3 -> 1 end, U = ask:wait(P, 2, infinity), receive after 2 -> 1 end, exit({T, U, receive {R, X} -> X after 0 -> none end, receive Y -> Y after 0 -> none end}). "
                      "g() -> receive {ask, Who, 1} -> receive after 2 -> 1 end, ask:answer(Who, late) end, receive {ask, Me, 2} -> ask:answer(Me, soon) end.")
        self.assertEqual("{{'EXIT',timeout},soon,late,none}", ends(told, 9))

    def test_other_letters_stay(self):
        told = system("-module(m). -export([f/0, g/0]). f() -> self() ! {make_ref(), no}, self() ! {'DOWN', make_ref(), process, self(), no}, P = spawn(m, g, []), X = ask:wait(P, 1, infinity), exit({X, receive {_, A} -> A end, receive {_, _, _, _, B} -> B end}). g() -> receive {ask, Who, _} -> ask:answer(Who, yes) end.")
        self.assertEqual("{yes,no,no}", ends(told))

    def test_outcomes_of_runs(self):
        """Whatever the weaving, an ask comes to what outcome tells of what came to its box."""
        text = "-module(m). -export([f/0, g/0]). f() -> P = spawn(m, g, []), exit({got, try ask:wait(P, what, %s) of X -> {answer, X} catch exit:R -> {exit, R} end}). g() -> receive {ask, {P, R}, _} -> %s end."
        rng = random.Random(3)
        kinds = set()
        for _ in range(120):
            time = rng.choice(("0", "1", "2", "infinity"))
            told = system(text % (time, rng.choice(("P ! {R, 1}, P ! {R, 2}", "exit(a)", "P ! x, receive after 1 -> 1 end, P ! {R, 3}", "receive after 2 -> exit(b) end", "P ! {R, 4}, exit(c)"))))
            weaving = led(told, walked(told, rng, rng.choice((5, 30, 60)), 4), 3)
            arrivals, world, asked = [], world_begun(told.texts, told.start), False
            for step in weaving:
                behind = world_after(world, step)
                looks = behind.doers[()].story
                if asked and step == TICK:
                    arrivals.append(TICK)
                elif step[0] == "come" and step[1:] == ((1,), ()) and not world.doers[()].ended:
                    signal = behind.doers[()].heard[-1][1]
                    if signal[0] == "letter":
                        arrivals.append(signal[1])
                    elif signal[0] == "notice":
                        arrivals.append(("tuple", "DOWN", signal[1], "process", P, signal[2]))
                asked = any(look[0] == "wait" for look in looks)
                world = behind
            looks = world.doers[()].story
            if looks[-1][0] != "end":
                continue
            wanted = outcome(REF, tuple(arrivals), "infinity" if time == "infinity" else int(time))
            got = ("tuple", "got", ("tuple", *wanted))
            kinds.add(wanted[0] + str(wanted[1:] == ("timeout",)))
            if ("timeout" in wanted) == (looks[-1][1][2][2] == "timeout"):
                self.assertEqual(got, looks[-1][1], arrivals)
        self.assertGreater(len(kinds), 2)


class Outcome(unittest.TestCase):
    def test_rows(self):
        other = ("ref", (), 2)
        for arrivals, time, wanted in (
                ((), "infinity", ("waits",)), ((), 5, ("waits",)), ((), 0, ("exit", "timeout")), ((answer(5),), 0, ("exit", "timeout")), ((answer(5),), "infinity", ("answer", 5)), ((down("x"),), 3, ("exit", "x")), ((answer(5), down("x")), 3, ("answer", 5)), ((down("x"), answer(5)), 3, ("exit", "x")),
                ((("tick",),), 1, ("exit", "timeout")), ((("tick",),), 2, ("waits",)), ((("tick",), ("tick",)), 2, ("exit", "timeout")), ((("tick",), answer(1)), 2, ("answer", 1)), ((("tick",), ("tick",), answer(1)), 2, ("exit", "timeout")), ((("tick",),) * 9, "infinity", ("waits",)), ((*(("tick",),) * 9, answer(1)), "infinity", ("answer", 1)),
                (("a", 1, ("tuple", other, 5), down("x", other), ("tuple", REF), ("tuple", REF, 1, 2), REF, ("list", REF, 5), ("tuple", "tick")), "infinity", ("waits",)), ((("tuple", other, 5), answer(6)), 9, ("answer", 6)), ((("tuple", "DOWN", REF, "process", "name", "x"),), 9, ("exit", "x")),
                ((("tuple", "DOWN", REF, "process", "x"),), 9, ("waits",)), ((down("timeout"),), 9, ("exit", "timeout"))):
            self.assertEqual(wanted, outcome(REF, arrivals, time), (arrivals, time))
        self.assertEqual(("answer", 1), outcome(time=1, arrivals=(answer(1),), ref=REF))

    def test_errors_in_their_sequence(self):
        for value in (*NO_TERMS, "a", 1, P, ("tuple", REF)):
            with self.assertRaises(BadTerm) as caught:
                outcome(value, None, None)
            self.assertIs(value, caught.exception.value)
        for value in (None, [answer(1)], (("tick", 1),), (True,), (("tick",), None), (("Tick",),), ("a b",), 5, "tick", {}):
            with self.assertRaises(BadRow) as caught:
                outcome(REF, value, None)
            self.assertIs(value, caught.exception.value)
        for value in (None, -1, True, "Infinity", "", (1,), [], ("infinity",)):
            with self.assertRaises(BadTime) as caught:
                outcome(REF, (), value)
            self.assertIs(value, caught.exception.value)


SERVED = """-module(s). -export([init/1, asked/3, told/2, other/2, ending/2, change/2]).
init({fail, R}) -> {stop, R}; init({odd, V}) -> V; init({raise, R}) -> error(R); init(X) -> {ok, X}.
asked(get, _, S) -> {answer, S, S}; asked({put, V}, _, S) -> {answer, {was, S}, V}; asked(silent, {P, R}, S) -> P ! {R, later}, {go, S}; asked(quit, _, S) -> {stop, bye, done, S}; asked(halt, _, S) -> {stop, halted, S}; asked(V, _, _) -> V.
told({add, N}, S) -> {go, S + N}; told(quit, S) -> {stop, told, S}; told(V, _) -> V.
other({'EXIT', _, R}, S) -> {go, {exit, R, S}}; other({stop, R}, S) -> {stop, R, S}; other(T, S) -> {go, {T, S}}.
ending(R, S) -> case whereis(log) of undefined -> none; P -> P ! {ending, R, S} end. change(S, E) -> {changed, S, E}."""


class Servers(unittest.TestCase):
    def does(self, body, ticks=3, module=SERVED, more=""):
        told = system("-module(m). -export([f/0]). f() -> register(log, self()), " + body + ". log() -> receive {ending, R, S} -> {R, S} after 0 -> none end. end_of(P) -> receive {'EXIT', P, W} -> W after 2 -> lives end. sys(P, W) -> R = make_ref(), P ! {system, {self(), R}, W}, receive {R, A} -> A after 1 -> none end. " + more, (module,))
        return ends(told, ticks)

    def test_beginning(self):
        self.assertEqual("{{ok,true},1}", self.does("process_flag(trap_exit, true), {ok, P} = server:start(s, 1), exit({{ok, is_pid(P)}, ask:wait(P, get, infinity)})"))
        for arg, reason in (("{fail, no}", "no"), ("{odd, 5}", "{bad_return,5}"), ("{odd, {ok, 1, 2}}", "{bad_return,{ok,1,2}}"), ("{raise, x}", "{x,[]}"), ("{odd, {stop}}", "{bad_return,{stop}}")):
            self.assertEqual("{error," + reason + "}", self.does("exit(server:start(s, " + arg + "))"))
        self.assertEqual("{error,{undef,[]}}", self.does("exit(server:start(none, 1))"))

    def test_it_is_tied_to_who_began_it(self):
        self.assertEqual("killed", self.does("{ok, P} = server:start(s, 1), exit(P, kill), receive never -> 1 end"))
        self.assertEqual("{lives,{'EXIT',none}}", self.does("process_flag(trap_exit, true), {ok, P} = server:start(s, 1), exit({end_of(P), receive X -> X after 0 -> {'EXIT', none} end})"))
        told = system("-module(m). -export([f/0, g/0]). f() -> spawn(m, g, []). g() -> {ok, P} = server:start(s, 1), receive after 1 -> exit(over) end.", (SERVED,))
        weaving = led(told, (), 3)
        self.assertEqual(("end", "over"), story(told, weaving, (1, 1))[-1])

    def test_nothing_is_left_in_the_box(self):
        self.assertEqual("none", self.does("{ok, P} = server:start(s, 1), server:start(s, {fail, x}), 1 = ask:wait(P, get, infinity), exit(receive X -> X after 1 -> none end)"))

    def test_letters(self):
        start = "process_flag(trap_exit, true), {ok, P} = server:start(s, 1), "
        self.assertEqual("{1,{was,1},5}", self.does(start + "exit({ask:wait(P, get, infinity), ask:wait(P, {put, 5}, infinity), ask:wait(P, get, infinity)})"))
        self.assertEqual("{later,1}", self.does(start + "exit({ask:wait(P, silent, infinity), ask:wait(P, get, infinity)})"))
        self.assertEqual("{ok,43}", self.does(start + "exit({ask:tell(P, {add, 42}), ask:wait(P, get, infinity)})"))
        self.assertEqual("{{ask,a},{{tell,a,b},{5,1}}}", self.does(start + "P ! 5, P ! {tell, a, b}, P ! {ask, a}, exit(ask:wait(P, get, infinity))"))
        self.assertEqual("{[1,2],{{x},1}}", self.does(start + "P ! {x}, P ! [1, 2], exit(ask:wait(P, get, infinity))"))

    def test_stopping(self):
        start = "process_flag(trap_exit, true), {ok, P} = server:start(s, 1), R = monitor(process, P), "
        end = ", exit({X, receive {'DOWN', R, _, _, W} -> W end, log()})"
        self.assertEqual("{bye,done,{done,1}}", self.does(start + "X = ask:wait(P, quit, infinity)" + end))
        self.assertEqual("{{'EXIT',halted},halted,{halted,1}}", self.does(start + "X = (catch ask:wait(P, halt, infinity))" + end))
        self.assertEqual("{ok,told,{told,1}}", self.does(start + "X = ask:tell(P, quit)" + end))
        self.assertEqual("{{stop,why},why,{why,1}}", self.does(start + "X = P ! {stop, why}" + end))
        self.assertEqual("{{stop,normal},normal,{normal,1}}", self.does(start + "X = P ! {stop, normal}" + end))

    def test_bad_returns(self):
        start = "process_flag(trap_exit, true), {ok, P} = server:start(s, 1), R = monitor(process, P), "
        end = ", exit({receive {'DOWN', R, _, _, W} -> W end, log()})"
        for value in ("5", "{answer,1}", "{answer,1,2,3}", "{go}", "{stop,1}", "{go,1,2}", "ok"):
            self.assertEqual("{{bad_return," + value + "},{{bad_return," + value + "},1}}", self.does(start + "catch ask:wait(P, " + value + ", infinity)" + end))
            self.assertEqual("{{bad_return," + value + "},{{bad_return," + value + "},1}}", self.does(start + "ask:tell(P, " + value + ")" + end))
        self.assertEqual("{{bad_return,{answer,1,2}},{{bad_return,{answer,1,2}},1}}", self.does(start + "ask:tell(P, {answer, 1, 2})" + end))
        self.assertEqual("{{bad_return,{stop,1,2,3}},{{bad_return,{stop,1,2,3}},1}}", self.does(start + "ask:tell(P, {stop, 1, 2, 3})" + end))

    def test_what_is_raised_ends_it(self):
        self.assertEqual("{{badarith,[]},none}", self.does("process_flag(trap_exit, true), {ok, P} = server:start(s, a), ask:tell(P, {add, 1}), exit({end_of(P), log()})"))

    def test_words_of_system(self):
        start = "process_flag(trap_exit, true), {ok, P} = server:start(s, 1), "
        self.assertEqual("{{ok,1},{error,unheld},{error,unknown},{error,unknown},ok,1}", self.does(start + "exit({sys(P, state), sys(P, {change, x}), sys(P, foo), sys(P, {change}), sys(P, go), ask:wait(P, get, infinity)})"))
        self.assertEqual("{ok,normal,{normal,1}}", self.does(start + "X = sys(P, stop), exit({X, end_of(P), log()})"))
        self.assertEqual("{ok,ok,{ok,1},{error,unknown},{'EXIT',timeout},ok,1}", self.does(start + "exit({sys(P, hold), sys(P, hold), sys(P, state), sys(P, bar), catch ask:wait(P, get, 1), sys(P, go), ask:wait(P, get, infinity)})", 9))
        self.assertEqual("{ok,ok,{ok,{changed,1,e}},ok,{changed,1,e}}", self.does(start + "exit({sys(P, hold), sys(P, {change, e}), sys(P, state), sys(P, go), ask:wait(P, get, infinity)})"))
        self.assertEqual("{ok,ok,normal,{normal,1}}", self.does(start + "X = {sys(P, hold), sys(P, stop)}, exit({element(1, X), element(2, X), end_of(P), log()})"))
        self.assertEqual("{ok,4}", self.does(start + "X = sys(P, hold), ask:tell(P, {add, 1}), ask:tell(P, {add, 2}), sys(P, go), exit({X, ask:wait(P, get, infinity)})"))

    def test_words_are_answered_first(self):
        module = SERVED.replace("change(S, E) -> {changed, S, E}", "change(S, E) -> exit({S, E})")
        self.assertEqual("{ok,ok,{1,x}}", self.does("process_flag(trap_exit, true), {ok, P} = server:start(s, 1), X = {sys(P, hold), sys(P, {change, x})}, exit({element(1, X), element(2, X), end_of(P)})", module=module))

    def test_calls_to_the_module_are_full_ones(self):
        new = SERVED.replace("asked(get, _, S) -> {answer, S, S};", "asked(get, _, S) -> {answer, {new, S}, S};")
        told = system("-module(m). -export([f/0]). f() -> {ok, P} = server:start(s, 1), A = ask:wait(P, get, infinity), load(s, 1), B = ask:wait(P, get, infinity), exit({A, B, purge(s)}).", (SERVED, new))
        self.assertEqual("{1,{new,1},0}", ends(told))


STATED = """-module(t). -export([init/1, at/3]).
init({fail, R}) -> {stop, R}; init({odd, V}) -> V; init(X) -> {ok, shut, X}.
at(S, {ask, W, get}, D) -> {keep, D, [{answer, W, {S, D}}]};
at(shut, {tell, open}, D) -> {next, open, [open | D], []}; at(shut, {tell, _}, _) -> off; at(shut, {other, E}, D) -> {keep, [E | D], []};
at(open, {tell, close}, D) -> {next, shut, [close | D], [{event, {other, e1}}, {event, {other, e2}}]};
at(open, {tell, again}, D) -> {next, open, [again | D], []}; at(open, {tell, {events, L}}, D) -> {keep, D, [{event, E} || E <- L]};
at(_, {tell, stop}, D) -> {stop, {done, D}, D}; at(_, {tell, {odd, V}}, _) -> V; at(open, E, D) -> {keep, [E | D], []}; at(_, own, D) -> {keep, [own | D], []}."""


class States(unittest.TestCase):
    does = Servers.does

    def states(self, body, module=STATED):
        return self.does("process_flag(trap_exit, true), {ok, P} = states:start(t, []), " + body, module=module)

    def test_beginning(self):
        self.assertEqual("{shut,[]}", self.states("exit(ask:wait(P, get, infinity))"))
        for arg, reason in (("{fail, no}", "no"), ("{odd, {ok, 5}}", "{bad_return,{ok,5}}")):
            self.assertEqual("{error," + reason + "}", self.does("exit(states:start(t, " + arg + "))", module=STATED))

    def test_next_and_keep(self):
        self.assertEqual("{open,[open]}", self.states("ask:tell(P, open), exit(ask:wait(P, get, infinity))"))
        self.assertEqual("{shut,[b,a]}", self.states("P ! a, P ! b, exit(ask:wait(P, get, infinity))"))
        self.assertEqual("{open,[{other,{ask,x}},{tell,y},open]}", self.states("ask:tell(P, open), ask:tell(P, y), P ! {ask, x}, exit(ask:wait(P, get, infinity))"))

    def test_what_is_put_off_comes_again(self):
        self.assertEqual("{open,[{other,z},{tell,2},{tell,1},open]}", self.states("ask:tell(P, 1), ask:tell(P, 2), ask:tell(P, open), P ! z, exit(ask:wait(P, get, infinity))"))
        self.assertEqual("{shut,[e2,e1,close,{tell,1},open]}", self.states("ask:tell(P, 1), ask:tell(P, close), ask:tell(P, 2), ask:tell(P, open), exit(ask:wait(P, get, infinity))"))
        self.assertEqual("{open,[{other,z},{tell,2},open,e2,e1,close,{tell,1},open]}", self.states("ask:tell(P, 1), ask:tell(P, close), ask:tell(P, 2), ask:tell(P, open), ask:tell(P, open), P ! z, exit(ask:wait(P, get, infinity))"))
        self.assertEqual("{open,[{tell,1},again,open]}", self.states("ask:tell(P, open), ask:tell(P, again), ask:tell(P, 1), exit(ask:wait(P, get, infinity))"))

    def test_own_events_come_ahead(self):
        self.assertEqual("{open,[{other,c},{other,b},{other,a},open]}", self.states("ask:tell(P, open), ask:tell(P, {events, [{other, a}, {tell, {events, [{other, b}]}}, {other, c}]}), exit(ask:wait(P, get, infinity))"))
        self.assertEqual("{open,[{tell,2},y,open]}", self.states("ask:tell(P, open), ask:tell(P, {events, [y, {tell, 2}]}), exit(ask:wait(P, get, infinity))"))

    def test_events_put_off_stand_between_new_ones_and_elder_ones(self):
        module = """-module(t). -export([init/1, at/3]). init(_) -> {ok, a, []}.
at(S, {ask, W, get}, D) -> {keep, D, [{answer, W, {S, D}}]}; at(a, {tell, start_it}, D) -> {keep, D, [{event, {ev, one}}, {event, {ev, two}}, {event, turn}, {event, {ev, last}}]};
at(a, {ev, _}, _) -> off; at(a, turn, D) -> {next, b, D, [{event, {ev, new}}]}; at(b, {ev, E}, D) -> {keep, [E | D], []}; at(_, E, D) -> {keep, [E | D], []}."""
        self.assertEqual("{b,[last,two,one,new]}", self.states("ask:tell(P, start_it), exit(ask:wait(P, get, infinity))", module))

    def test_stopping(self):
        self.assertEqual("{done,[]}", self.states("ask:tell(P, open), ask:tell(P, stop), exit(case end_of(P) of {done, [open]} -> {done, []} end)"))
        for value in ("5", "{next,a,b}", "{keep,a}", "{stop,a}", "{off}"):
            self.assertEqual("{bad_return," + value + "}", self.states("ask:tell(P, open), ask:tell(P, {odd, " + value + "}), exit(end_of(P))"))

    def test_it_is_tied_to_who_began_it(self):
        self.assertEqual("killed", self.does("{ok, P} = states:start(t, []), exit(P, kill), receive never -> 1 end", module=STATED))


class Served(unittest.TestCase):
    TABLE = tuple(tuple(row[1:]) for row in read_term("[{off,push,on,on},{on,push,off,off},{on,{ask,1},[1],on}]")[1:])

    def test_by_a_table(self):
        self.assertEqual((), served(self.TABLE, "off", ())[0])
        self.assertEqual(((), "nowhere"), served(self.TABLE, "nowhere", (("p", "push"),)))
        self.assertEqual(((("p", "on"), ("q", ("list", 1)), ("p", "off")), "off"), served(self.TABLE, "off", (("p", "push"), ("q", ("tuple", "ask", 1)), ("r", "none"), ("p", "push"))))
        self.assertEqual(((), 1), served((), 1, ((1, 2),)))
        self.assertEqual(((("w", 3),), 4), served(letters=(("w", 2),), state=1, table=((1, 2, 3, 4),)))

    def test_a_server_that_goes_by_it_does_so(self):
        rows = ", ".join("asked(%s, _, %s) -> {answer, %s, %s}" % tuple(term_text(part) for part in (what, state, reply, later)) for state, what, reply, later in self.TABLE).replace("}, asked", "}; asked")
        module = "-module(s). -export([init/1, asked/3]). init(S) -> {ok, S}. " + rows + "; asked(_, _, S) -> {go, S}."
        rng = random.Random(5)
        for _ in range(10):
            whats = [rng.choice(("push", ("tuple", "ask", 1), "foo")) for _ in range(6)]
            sends = ", ".join("P ! {ask, {S, " + str(number) + "}, " + term_text(what) + "}" for number, what in enumerate(whats))
            told = system("-module(m). -export([f/0]). f() -> S = self(), {ok, P} = server:start(s, off), " + sends + ", receive after 1 -> 1 end, exit(all([])). all(L) -> receive {N, A} -> all(L ++ [{N, A}]) after 0 -> L end.", (module,))
            answers, _ = served(self.TABLE, "off", tuple((number, what) for number, what in enumerate(whats)))
            self.assertEqual(term_text(("list", *[("tuple", who, reply) for who, reply in answers])), ends(told, 1))

    def test_errors_in_their_sequence(self):
        row = (1, 2, 3, 4)
        for value in (None, [row], row, (row, row), (row, (1, 2, 5, 6)), ((1, 2, 3),), ((1, 2, 3, 4, 5),), ([1, 2, 3, 4],), ((True, 2, 3, 4),), ((1, 2, 3, None),), "a", {}):
            with self.assertRaises(BadTable) as caught:
                served(value, None, None)
            self.assertIs(value, caught.exception.value)
        self.assertEqual(((), 5), served((row, (2, 2, 3, 4), (1, 3, 3, 4)), 5, ()))
        for value in NO_TERMS:
            with self.assertRaises(BadTerm) as caught:
                served((row,), value, None)
            self.assertIs(value, caught.exception.value)
        for value in (None, [(1, 2)], (1, 2), ((1,),), ((1, 2, 3),), ([1, 2],), ((1, True),), ((None, 1),), "a", {}):
            with self.assertRaises(BadLetters) as caught:
                served((row,), 1, value)
            self.assertIs(value, caught.exception.value)


if __name__ == "__main__":
    unittest.main()
