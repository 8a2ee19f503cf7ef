"""Section 21: editions in the book, who holds them, where processes stand; and squares."""

import itertools
import random
import unittest

from arrivalmill.editions import editions_of, holders, places_of, shows_square, square
from arrivalmill.errors import BadModule, BadName, BadTerm, BadTerms, BadWeaving, Many, NoProcess, Stuck
from arrivalmill.plain import worth
from arrivalmill.reading import Module
from arrivalmill.terms import sort_terms
from arrivalmill.weavings import standing, story
from tests.systems import ALL, led, one, system, walked
from tests.values import NO_TERMS

GO, CHILD = ("go", ()), ("go", (1,))
TWO = "-module(v). -export([mk/0, far/0]). mk() -> fun (X) -> X end. far() -> receive never -> 1 end."


class Books(unittest.TestCase):
    def book(self, body, steps, *more):
        told = system("-module(m). -export([f/0]). f() -> " + body + ".", *more)
        return editions_of(told, (GO,) * steps)

    def test_along_loads_deletes_and_purges(self):
        body = "load(v, 1), soft_purge(v), load(v, 0), delete(v), purge(v), delete(v), purge(v), delete(v), load(v, 1), load(w, 0), load(v, 5)"
        wanted = [((1, None)), (1, None), (2, 1), (2, None), (3, 2), (3, 2), (3, None), (None, 3), (None, None), (None, None), (4, None), (4, None), (4, None)]
        for steps, (current, old) in enumerate(wanted):
            self.assertEqual((("m", 1, None), ("v", current, old)), self.book(body, steps, TWO, TWO), steps)

    def test_names_ascend(self):
        self.assertEqual((("B", 1, None), ("a", 1, None), ("m", 1, None)), self.book("1", 0, "-module(a).", "-module('B').", "-module(a)."))

    def test_errors(self):
        told = one("1")
        for call in (editions_of, holders, places_of):
            for value, number in ((None, -1), ((GO, 1), 1), ((("tick",), ("go", (1,))), 1)):
                with self.assertRaises(BadWeaving) as caught:
                    call(told, value, *(() if call == editions_of else (None,)))
                self.assertEqual(number, caught.exception.value)
        for value in (None, 1, True, "", "a b", ("m",), [], {}, b"m"):
            with self.assertRaises(BadName) as caught:
                holders(told, (), value)
            self.assertIs(value, caught.exception.value)
        for value in (None, (1,), (True,), 1, "a", [()], (0,), ("a",), {}):
            with self.assertRaises(NoProcess) as caught:
                places_of(told, (), value)
            self.assertIs(value, caught.exception.value)
        self.assertEqual(((), ()), holders(told, (), "nothing"))
        self.assertEqual(holders(told, (GO,), "m"), holders(name="m", weaving=(GO,), system=told))
        self.assertEqual(places_of(told, (GO,), ()), places_of(path=(), weaving=(GO,), system=told))
        self.assertEqual(editions_of(told, ()), editions_of(weaving=(), system=told))


class Holders(unittest.TestCase):
    def after(self, old_body, driver="spawn(v, go, [self()]), receive on -> 1 end, load(v, 1), receive never -> 1 end", new="-module(v)."):
        """Who holds the editions of v behind its load."""
        told = system("-module(m). -export([f/0]). f() -> " + driver + ".", "-module(v). -export([go/1, mk/0, stay/1]). go(P) -> " + old_body + ". mk() -> fun () -> 1 end. stay(P) -> P ! on, receive never -> 1 end.", new, "-module(w). -export([stay/1, keep/2]). stay(P) -> P ! on, receive never -> 1 end. keep(P, F) -> P ! on, receive never -> 1 end, F.")
        return holders(told, led(told), "v")

    def test_places(self):
        for body, wanted in (("P ! on, receive never -> 1 end", ((1,),)), ("w:stay(P)", ()), ("w:stay(P), 1", ((1,),)), ("{w:stay(P)}", ((1,),)), ("v:stay(P)", ((1,),)), ("stay(P)", ((1,),)), ("case P of _ -> w:stay(P) end", ()), ("try w:stay(P) catch _ -> 1 end", ((1,),)), ("true andalso w:stay(P)", ((1,),)),
                             ("spawn(w, stay, [P])", ()), ("spawn(fun () -> w:stay(P) end)", ()), ("spawn(fun () -> w:stay(P), 2 end)", ((1, 1),)), ("P ! on", ())):
            self.assertEqual(((), wanted), self.after(body), body)

    def test_terms(self):
        for body, wanted in (("w:keep(P, mk())", ((1,),)), ("w:keep(P, fun mk/0)", ((1,),)), ("w:keep(P, fun v:mk/0)", ()), ("w:keep(P, {[#{a => mk()}]})", ((1,),)), ("w:keep(P, #{mk() => 1})", ((1,),)), ("self() ! mk(), w:stay(P)", ((1,),)), ("P ! mk(), P ! on", ((),)), ("F = mk(), G = fun () -> F end, w:keep(P, G)", ((1,),)), ("_ = mk(), w:stay(P)", ())):
            self.assertEqual(((), wanted), self.after(body), body)

    def test_what_is_on_the_way_does_not_count(self):
        told = system("-module(m). -export([f/0]). f() -> spawn(v, go, [self()]), receive on -> 1 end, load(v, 1), receive never -> 1 end.", "-module(v). -export([go/1]). go(P) -> P ! on, P ! fun () -> 1 end.", "-module(v).")
        weaving = led(told)
        self.assertEqual(((), ((),)), holders(told, weaving, "v"))
        ahead = (GO, GO, CHILD, CHILD, CHILD, CHILD, ("come", (1,), ()), GO, GO)
        self.assertEqual(("load", "v", 1, ("tuple", "ok", 2)), story(told, ahead, ())[-1])
        self.assertEqual(((), ((), ())), (standing(told, ahead)[0][2], holders(told, ahead, "v")))
        self.assertEqual(((), ((),)), holders(told, (*ahead, ("come", (1,), ())), "v"))

    def test_current_and_old(self):
        driver = "spawn(v, go, [self()]), receive on -> 1 end, load(v, 1), spawn(v, go, [self()]), receive on -> 1 end, receive never -> 1 end"
        self.assertEqual((((2,),), ((1,),)), self.after("P ! on, receive never -> 1 end", driver, "-module(v). -export([go/1]). go(P) -> P ! on, receive other -> 1 end."))
        self.assertEqual((((),), ()), holders(one("receive never -> 1 end"), (GO,), "m"))
        self.assertEqual(((), ()), holders(one("receive never -> 1 end"), (), "m"))

    def test_whose_end_is_there_holds_its_box_alone(self):
        told = system("-module(m). -export([f/0]). f() -> self() ! fun () -> 1 end, 2.")
        self.assertEqual((((),), ()), holders(told, (GO,), "m"))
        self.assertEqual((((),), ()), holders(told, (GO, GO), "m"))
        self.assertEqual(((), ()), holders(told, (GO, GO, GO), "m"))
        told = one("monotonic_time(), 1")
        self.assertEqual([((((),), ())), ((), ())], [holders(told, (GO,) * many, "m") for many in (1, 2)])

    def test_what_purges_do_is_what_holders_tell(self):
        rng = random.Random(6)
        told, seen = ALL["editions"], 0
        for _ in range(40):
            weaving = walked(told, rng, 110)
            for number, step in enumerate(weaving):
                if step[0] != "go":
                    continue
                ahead, behind = weaving[:number], weaving[:number + 1]
                done = story(told, behind, step[1])[len(story(told, ahead, step[1])):]
                for look in done:
                    if look[0] in ("purge", "soft"):
                        books = {name: old for name, _, old in editions_of(told, ahead)}
                        held = holders(told, ahead, look[1])[1]
                        seen += 1
                        if look[0] == "purge":
                            self.assertEqual(len(held), look[2])
                            for path in held:
                                self.assertEqual(("end", "killed"), story(told, behind, path)[-1])
                        else:
                            self.assertEqual("false" if held else "true", look[2])
                        if look[0] == "purge" or not held:
                            self.assertIsNone({name: old for name, _, old in editions_of(told, behind)}[look[1]])
                        if books[look[1]] is None:
                            self.assertEqual((), held)
        self.assertGreater(seen, 30)


class Places(unittest.TestCase):
    def test_open_calls(self):
        told = system("-module(m). -export([f/0, h/2]). f() -> {g(1)}. g(X) -> F = fun (Y, Z) -> 1 + m:h(Y, Z) end, F(X, 2), 3. h(A, B) -> case A of 1 -> last(B) end. last(B) -> receive B -> 1 end.")
        self.assertEqual((), places_of(told, (), ()))
        self.assertEqual((("m", 1, 0, 2), ("m", 1, "g", 1), ("m", 1, "f", 0)), places_of(told, (GO,), ()))
        self.assertEqual((("m", 1, "last", 1), ("m", 1, 0, 2), ("m", 1, "g", 1), ("m", 1, "f", 0)), places_of(told, (GO, GO), ()))

    def test_last_places(self):
        for body, wanted in (("g()", ("g",)), ("g(), 1", ("g", "f")), ("begin g() end", ("g",)), ("case 1 of _ -> g() end", ("g",)), ("if true -> g() end", ("g",)), ("receive x -> 1 after 0 -> g() end", ("g",)), ("try g() catch _ -> 1 end", ("g", "f")), ("try 1 after g() end", ("g", "f")), ("catch g()", ("g", "f")), ("true andalso g()", ("g", "f")), ("X = g()", ("g", "f")),
                             ("[g() || _ <- [1]]", ("g", "f")), ("(fun () -> g() end)()", ("g",)), ("(fun () -> g(), 1 end)()", ("g", 0)), ("apply(fun g/0, [])", ("g",))):
            told = one(body, "g() -> receive never -> 1 end.")
            weaving = led(told)
            self.assertEqual(wanted, tuple(place[2] for place in places_of(told, weaving, ())), body)

    def test_who_is_begun(self):
        told = system("-module(m). -export([f/0, g/0]). f() -> spawn(m, g, []), spawn(fun m:g/0), spawn(fun g/0), spawn(fun () -> self() ! 1 end), spawn(fun () -> 1 end). g() -> self() ! 1.")
        weaving = (GO,) * 6
        self.assertEqual([(), (), (("m", 1, "g", 0),), (("m", 1, 0, 0),), ()], [places_of(told, weaving, (number,)) for number in range(1, 6)])

    def test_ended_and_ending(self):
        told = one("monotonic_time()")
        self.assertEqual([(), (("m", 1, "f", 0),), (), ()], [places_of(told, (GO,) * many, ()) for many in range(4)])

    def test_editions(self):
        told = system("-module(m). -export([f/0]). f() -> spawn(v, go, []), spawn(v, go, []), receive after 1 -> load(v, 1) end, receive never -> 1 end.", "-module(v). -export([go/0, on/0]). go() -> receive up -> v:on() after 2 -> {v:on()} end. on() -> 1.", "-module(v). -export([on/0]). on() -> receive never -> 1 end.")
        weaving = led(told, (), 2)
        self.assertEqual((("v", 2, "on", 0), ("v", 1, "go", 0)), places_of(told, weaving, (1,)))
        self.assertEqual(((((1,), (2,)), ((1,), (2,)))), holders(told, weaving, "v"))


def handling(handle, change="change(S) -> S.", more=""):
    return Module("-module(c). -export([handle/2, change/1]). handle(L, S) -> " + handle + ". " + change + " " + more)


COUNT = handling("case L of up -> {ok, (S + 1) rem 4}; get -> {S, S} end")


class Squares(unittest.TestCase):
    def test_closes(self):
        new = handling("case L of up -> {ok, {(element(1, S) + 1) rem 4}}; get -> {element(1, S), S} end", "change(S) -> {S}.")
        told = square(COUNT, new, 0, ("up", "get"))
        self.assertEqual(("closes", (0, 1, 2, 3)), told)
        self.assertTrue(shows_square(COUNT, new, 0, ("up", "get"), told))
        for value in (("closes", (0, 1, 2)), ("closes", [0, 1, 2, 3]), ("opens", ("up",)), ("closes", (False, True, 2, 3)), None, ("closes",), "closes", ("closes", (0, 1, 2, 3), 1)):
            self.assertFalse(shows_square(COUNT, new, 0, ("up", "get"), value))
        self.assertEqual(("closes", (2,)), square(COUNT, new, 2, ("get",)))
        self.assertEqual(("closes", (0, 1, 2, 3)), square(COUNT, COUNT, 1, ("up",)))

    def test_opens(self):
        new = handling("case L of up -> {ok, (S + 1) rem 3}; get -> {S, S} end")
        told = square(COUNT, new, 0, ("up", "get"))
        self.assertEqual(("opens", ("up", "up", "up")), told)
        for value, wanted in ((told, True), (("opens", ("up", "up")), False), (("opens", ("up", "get", "up", "up")), False), (("opens", ["up", "up", "up"]), False), (("opens", ("up", "up", "get")), False), (("closes", ()), False), (("opens",), False), (None, False), (("Opens", ("up",) * 3), False)):
            self.assertIs(wanted, shows_square(COUNT, new, 0, ("up", "get"), value), value)
        self.assertEqual(("opens", ("up",)), square(COUNT, new, 2, ("up", "get")))
        two = handling("case L of up -> {yes, S}; get -> {no, S} end")
        self.assertTrue(shows_square(COUNT, two, 0, ("up", "get"), ("opens", ("up",))))
        self.assertTrue(shows_square(COUNT, two, 0, ("up", "get"), ("opens", ("get",))))
        self.assertIn(square(COUNT, two, 0, ("up", "get")), (("opens", ("up",)), ("opens", ("get",))))

    def test_answers_and_states_both_count(self):
        for handle, change, closes in (("{a, S}", "change(S) -> S.", True), ("{b, S}", "change(S) -> S.", False), ("{a, {S}}", "change(S) -> S.", False), ("{a, S}", "change(_) -> 5.", True), ("{a, 6}", "change(_) -> 5.", False)):
            self.assertEqual(closes, square(handling("{a, S}"), handling(handle, change), 1, (1,))[0] == "closes", (handle, change))

    def stuck(self, old, new, begin, letters, rows):
        for call, more in ((square, ()), (shows_square, (None,))):
            with self.assertRaises(Stuck) as caught:
                call(old, new, begin, letters, *more)
            self.assertIn(caught.exception.value, rows)

    def test_sticks(self):
        self.stuck(COUNT, COUNT, "a", ("up", "get"), (("up",),))
        self.stuck(handling("{L}"), COUNT, 0, ("up", "get"), (("up",), ("get",)))
        self.stuck(COUNT, handling("throw(a)"), 0, ("up",), (("up",),))
        self.stuck(COUNT, handling("{L, S}", "change(S) -> exit(S)."), 0, ("get",), (("get",),))
        self.stuck(COUNT, handling("case L of up -> {ok, (S + 1) rem 4}; get -> {S, S} end", "change(S) when S < 2 -> S."), 0, ("up", "get"), (("up", "up"),))
        self.stuck(COUNT, handling("{ok, self() ! S}"), 0, ("up",), (("up",),))
        self.stuck(COUNT, handling("receive X -> {X, S} end"), 0, ("up",), (("up",),))
        self.stuck(handling("other:call(L, S)"), COUNT, 0, ("up",), (("up",),))
        self.stuck(handling("[L, S]"), COUNT, 0, ("up",), (("up",),))
        self.stuck(handling("{L, S, 1}"), COUNT, 0, ("up",), (("up",),))

    def test_sticking_goes_ahead_of_opening_at_one_length(self):
        new = handling("case L of up -> {no, S}; get -> exit(x) end")
        self.stuck(COUNT, new, 0, ("up", "get"), (("get",),))
        later = handling("case {L, S} of {up, 0} -> {no, S}; {get, 0} -> {0, 0}; _ -> exit(x) end")
        self.assertEqual(("opens", ("up",)), square(COUNT, later, 0, ("up", "get")))

    def test_many(self):
        many = handling("{ok, S + L}")
        for call, more in ((square, ()), (shows_square, (None,))):
            with self.assertRaises(Many) as caught:
                call(many, many, 0, (1,), *more)
            self.assertEqual(60, caught.exception.value)
        up_to = lambda number: handling("case S of " + str(number) + " -> {ok, S}; _ -> {ok, S + L} end")
        self.assertEqual(60, len(square(up_to(59), up_to(59), 0, (1,))[1]))
        self.assertRaises(Many, square, up_to(60), up_to(60), 0, (1,))

    def test_many_ahead_of_all_this(self):
        many = handling("{ok, S + L}")
        slips = lambda number: handling("case S of " + str(number) + " -> {no, S}; _ -> {ok, S + L} end")
        self.assertEqual(("opens", (1,) * 60), square(many, slips(59), 0, (1,)))
        self.assertRaises(Many, square, many, slips(60), 0, (1,))
        self.assertRaises(Many, square, many, handling("case S of 60 -> exit(x); _ -> {ok, S + L} end"), 0, (1,))
        # States that rows as long as the shortest one come to do not count.
        self.assertEqual("opens", square(handling("{ok, {S, L}}"), handling("case S of {{{0, _}, _}, _} -> {no, S}; _ -> {ok, {S, L}} end"), 0, (1, 2, 3))[0])
        wide = handling("{ok, [L | S]}")
        self.assertEqual(("opens", ("a", "a")), square(wide, handling("case S of [_] -> {no, S}; _ -> {ok, [L | S]} end"), ("list",), ("a", "b", "c", "d", "e", "g"))[:2])
        self.assertRaises(Many, square, wide, handling("case S of [_, _, _] -> {no, S}; _ -> {ok, [L | S]} end"), ("list",), ("a", "b", "c", "d", "e", "g"))

    def test_all_shortest_rows_are_taken(self):
        # Both letters lead to one state, at which it opens.
        old = handling("case S of 0 -> {ok, 1}; 1 -> {ok, 2}; 2 -> {ok, 2} end")
        new = handling("case S of 0 -> {ok, 1}; 1 -> {ok, 2}; 2 -> {no, 2} end")
        told = square(old, new, 0, ("a", "b"))
        self.assertEqual(3, len(told[1]))
        for row in itertools.product("ab", repeat=3):
            self.assertIs(True, shows_square(old, new, 0, ("a", "b"), ("opens", row)))
        for row in (("a", "a"), ("a",) * 4, (), ("a", "a", "c"), ("a", "a", True), ["a", "a", "a"], "aaa", None):
            self.assertIs(False, shows_square(old, new, 0, ("a", "b"), ("opens", row)), row)

    def test_states_ascend(self):
        ring = handling("case S of a -> {1, 2}; 2 -> {1, {b}}; {b} -> {1, a} end")
        self.assertEqual(("closes", sort_terms(("a", 2, ("tuple", "b")))), square(ring, ring, "a", (1,)))

    def test_word_for_word(self):
        rng = random.Random(9)
        kinds = set()
        for _ in range(150):
            size = rng.randint(1, 4)
            def drawn(change):
                rows = [f"handle({letter}, {state}) -> {{{rng.choice('xxxxy')}, {rng.randrange(size)}}}" for letter in "ab" for state in range(size) if rng.random() < 0.96]
                return Module("-module(c). -export([handle/2, change/1]). " + "; ".join(rows or ["handle(_, _) -> 1"]) + ". " + change)
            old = drawn("change(S) -> S.")
            new = old if rng.random() < 0.4 else drawn("change(S) -> S." if rng.random() < 0.8 else "change(0) -> 0.")
            letters = ("a", "b")
            wanted = naive(old, new, 0, letters)
            kinds.add(wanted[0])
            if wanted[0] == "sticks":
                with self.assertRaises(Stuck) as caught:
                    square(old, new, 0, letters)
                self.assertIn(caught.exception.value, wanted[1])
            elif wanted[0] == "opens":
                self.assertIn(square(old, new, 0, letters)[1], wanted[1])
                for row in itertools.chain(wanted[1], itertools.product("ab", repeat=2), itertools.product("ab", repeat=1)):
                    self.assertEqual(row in wanted[1], shows_square(old, new, 0, letters, ("opens", tuple(row))))
            else:
                self.assertEqual(wanted, square(old, new, 0, letters))
        self.assertEqual({"sticks", "opens", "closes"}, kinds)

    def test_errors_in_their_sequence(self):
        right, other = COUNT, Module(COUNT.text.replace("(c)", "(d)"))
        no_handle, no_change, unsound = Module("-module(c). -export([change/1]). change(S) -> S."), Module("-module(c). -export([handle/2]). handle(L, S) -> {L, S}."), Module("-module(c). -export([handle/2, change/1]). handle(L, S) -> X. change(S) -> S.")
        hidden = Module("-module(c). -export([change/1]). handle(L, S) -> {L, S}. change(S) -> S.")
        for call, more in ((square, ()), (shows_square, (None,))):
            for value in (None, 1, "c", COUNT.text, no_handle, unsound, hidden, (right,), [right]):
                for arguments in ((value, None, None, None), (right, value, None, None)):
                    with self.assertRaises(BadModule) as caught:
                        call(*arguments, *more)
                    self.assertIs(value, caught.exception.value)
            for value in (other, no_change):
                with self.assertRaises(BadModule) as caught:
                    call(right, value, None, None, *more)
                self.assertIs(value, caught.exception.value)
            for value in NO_TERMS:
                with self.assertRaises(BadTerm) as caught:
                    call(right, right, value, None, *more)
                self.assertIs(value, caught.exception.value)
            for value in (None, (), [1], 1, (1, 1), (1, True), (1, None), tuple(range(7)), "ab", {}):
                with self.assertRaises(BadTerms) as caught:
                    call(right, right, 0, value, *more)
                self.assertIs(value, caught.exception.value)
        self.assertEqual(("closes", (0,)), square(letters=("get",), begin=0, new=right, old=right))
        self.assertEqual("closes", square(no_change, Module(no_change.text.replace("[handle/2]", "[handle/2, change/1]") + " change(S) -> S."), 0, (1,))[0])


def naive(old, new, begin, letters):
    """What a square tells, row by row, of at most four letters each."""
    def step(module, letter, state):
        told = worth((module,), "c", "handle", (letter, state))
        return told[1][1:] if told[0] == "value" and isinstance(told[1], tuple) and told[1][0] == "tuple" and len(told[1]) == 3 else None
    def change(state):
        told = worth((new,), "c", "change", (state,))
        return told[1:] if told[0] == "value" else None
    states, level = {begin}, {(): begin}
    for _ in range(6):
        sticks, opens, behind = [], [], {}
        for row, state in level.items():
            for letter in letters:
                here, moved = step(old, letter, state), change(state)
                if here is None or moved is None or step(new, letter, moved[0]) is None or change(here[1]) is None:
                    sticks.append((*row, letter))
                elif step(new, letter, moved[0]) != (here[0], change(here[1])[0]):
                    opens.append((*row, letter))
                else:
                    behind[(*row, letter)] = here[1]
        if sticks:
            return ("sticks", sticks)
        if opens:
            return ("opens", opens)
        states |= set(behind.values())
        level = behind
    return ("closes", tuple(sorted(states)))


if __name__ == "__main__":
    unittest.main()
