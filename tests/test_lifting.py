"""Section 15, code_of: code of modules does the same; section 3 (a), (b), (d), as far as code tells."""

import random
import unittest

from arrivalmill.checked import checked, shows_checked
from arrivalmill.errors import MillError, Unsound
from arrivalmill.lifting import code_of
from arrivalmill.looker import look_over
from arrivalmill.machine import coded_alone, stand
from arrivalmill.printing import show_module
from arrivalmill.reading import Module
from arrivalmill.rows import Code, words_wanted
from arrivalmill.single import alone
from arrivalmill.weavings import heard, story
from tests.programs import drawn_module, drawn_signals, lived
from tests.systems import ALL, beginning, walked, world_of
from tests.test_allruns import drawn
from tests.test_worth import HELP, ROWS

OTHER = Module("-module(other). -export([twice/1, back/1, make/1]). twice(N) -> N * 2. back(N) -> m:go(N, []). make(N) -> fun (A) -> A + N end. hidden(N) -> N.")
LONG = """-module(m). -export([f/0, loop/2, go/1]).
f() -> X = [1, 2, 3], process_flag(trap_exit, true), loop(X, 0), m:go([]), apply(fun go/1, [[]]), apply(m, go, [X]), apply(go(f), []), receive after infinity -> 1 end.
loop([], N) -> self() ! {sum, N}, N; loop([H | T], N) when is_integer(H), H > 0, length(T) < 9; H == a -> loop(T, case H of a -> N; _ -> H + N end).
go(f) -> fun () -> self() ! called end;
go(X) -> Y = if X == [] -> none; true -> some end, receive {sum, N} when N > 5, Y == none -> self() ! {N, Y}; called -> ok after length(X) -> self() ! late end,
  try self() ! [{A, B} || A <- [1, 2, 3], A rem 2 == 1, {B, A} <- [{x, 1}, {y, 3}, {z, 2}, 7]], throw({Y, X}) of _ -> never catch {none, _} -> self() ! thrown; throw:Z -> self() ! Z after self() ! last end,
  M = #{a => 1, X => Y}, #{a := One, X := Y} = M#{a := 2, b => 3}, <<1, 2>> = list_to_binary([One - 1, 2]), self() ! (fun Fac(0) -> 1; Fac(K) -> K * Fac(K - 1) end)(5),
  (catch hd(X)) == 1 orelse self() ! no, true = is_map(M) andalso not is_map(X), One."""


def told(call, *arguments):
    try:
        return ("returns", call(*arguments))
    except MillError as error:
        return ("raises", type(error).__name__, error.value)


class Lifted(unittest.TestCase):
    def check(self, module):
        """The code of a module, looked through."""
        code = code_of(module)
        self.assertIsInstance(code, Code)
        self.assertEqual((module.name, module.exports), (code.name, code.exports))
        self.assertEqual(module.functions, tuple(entry[:2] for entry in code.entries))
        found = checked(code)
        self.assertEqual("fine", found[0], found[1])
        self.assertTrue(shows_checked(code, found))
        self.assertEqual(code, code_of(module))
        for number, row in enumerate(code.rows):
            if row[0] == "room":
                self.assertLessEqual(words_wanted(code, number), row[1])
        return code

    def same(self, modules, codes, path, start, signals, answers):
        self.assertEqual(told(alone, modules, path, start, signals, answers), told(coded_alone, codes, path, start, signals, answers))

    def test_unsound(self):
        for text in ("-module(m). f() -> X.", "-module(m). f(X) -> case X of 1 -> Y = 1; 2 -> 2 end, Y, [Z || Z <- X].", "-module(m). f() -> g(), h."):
            with self.assertRaises(Unsound) as caught:
                code_of(Module(text))
            self.assertEqual(look_over(Module(text)), caught.exception.value)
        self.check(Module("-module(m). f(X, Y) -> 1."))

    def test_what_expressions_come_to(self):
        other = self.check(OTHER)
        for row in ROWS.strip().split("\n"):
            body = row.rsplit(" ? ", 1)[0].rsplit(" ! ", 1)[0] if " ? " in row or " ! " in row else row.rsplit(" = ", 1)[0]
            text = ("-module(m). -export([f/2, go/2]). go(A, B) -> try {gone, A} of {gone, _} when B == B -> {gone, A} after ok end. f(X, Y) -> try begin " + body + " end of V -> exit({value, V}) catch C:R -> exit({C, R}) end. " + HELP)
            try:
                module = Module(text)
            except MillError:
                continue
            code = self.check(module)
            _, answers, looks = lived(random.Random(1), (module, OTHER), (3,), ("m", "f", (1, ("list", 1, 2, 3))), ())
            self.same((module, OTHER), (code, other), (3,), ("m", "f", (1, ("list", 1, 2, 3))), (), answers)
            self.assertEqual(3, len(looks) + 1, looks)

    def test_all_kinds_of_forms(self):
        module = Module(LONG)
        code = self.check(module)
        for row in ("call", "last", "outer", "apply", "spread", "outspread", "try", "untry", "raise", "fail", "look", "take", "pass", "wait", "fun", "own", "room", "cell", "tuple", "size", "head", "tail", "part", "key", "guard", "do", "pick", "frame", "unframe", "clear"):
            self.assertIn(row, [one[0] for one in code.rows])
        rng = random.Random(3)
        for _ in range(40):
            signals, answers, looks = lived(rng, (module,), (1,), ("m", "f", ()), drawn_signals(rng, (1,)))
            self.same((module,), (code,), (1,), ("m", "f", ()), signals, answers)
        signals, answers, looks = lived(rng, (module,), (1,), ("m", "f", ()), (("clock", ("over", 0), 20),))
        self.assertEqual((("over",), ("ended",)), (looks[0][20], looks[1][:1]))
        self.assertGreater(len(looks[0]), 27)
        for cut in range(len(answers)):
            self.same((module,), (code,), (1,), ("m", "f", ()), (), answers[:cut])

    def test_programs_by_random(self):
        rng = random.Random(21)
        for _ in range(80):
            module = drawn_module(rng, rng.choice((2, 3, 3)))
            code = self.check(module)
            for _ in range(2):
                signals, answers, _ = lived(rng, (module,), (1,), ("m", "f", ()), drawn_signals(rng, (1,)))
                self.same((module,), (code,), (1,), ("m", "f", ()), signals, answers)
                if answers:
                    self.same((module,), (code,), (1,), ("m", "f", ()), signals, answers[:rng.randrange(len(answers))])
                place = stand((code,), (1,), ("m", "f", ()), signals, answers)[0]
                self.assertTrue(place == "ended" or (place[0] == "m" and place[1] < len(code)))

    def test_what_processes_of_runs_heard_leads_code_through_their_stories(self):
        rng = random.Random(22)
        compared = 0
        for system in [ALL["many"], ALL["alone"], *(drawn(rng) for _ in range(12))]:
            if len({module.name for module in system.modules}) < len(system.modules) or any(word in module.text for module in system.modules for word in ("load", "purge", "delete")):
                continue
            codes = tuple(self.check(module) for module in system.modules)
            for _ in range(6):
                weaving = walked(system, rng, 120)
                world = world_of(system, weaving)
                for path in world.doers:
                    start = system.start if path == () else beginning(world, path)
                    if start is None:
                        continue
                    signals, answers = heard(system, weaving, path)
                    looks = story(system, weaving, path)
                    plain = told(alone, system.modules, path, start, signals, answers)
                    self.assertEqual(plain, told(coded_alone, codes, path, start, signals, answers))
                    if plain[0] == "returns":
                        self.assertEqual(looks, plain[1][0][:len(looks)])
                        compared += 1
        self.assertGreater(compared, 60)

    def test_printed_modules_tell_the_same(self):
        rng = random.Random(23)
        for _ in range(20):
            module = drawn_module(rng)
            again = Module(show_module(module))
            self.assertEqual(code_of(module), code_of(again))

    def test_forms_at_their_edges(self):
        for body in ("{Y = 1, [Y || Y <- [2]]}, Y", "{Y = 1, try Y = 2 catch _ -> 0 end}, Y", "{Y = 1, try 2 of Y -> Y catch _ -> 0 end}, Y", "{try throw(1) catch Y -> Y end, Y = 3}, Y", "{[Y || Y <- [2]], Y = 5}, Y", "{Y = 1, [Z = Y || Y <- [2]], Z = 4}, Z",
                     "Y = 1, [{Y, Z} || Y <- [2, Y], Z <- [Y, 3]]", "X = 1, [X || X <- [X, 5], X <- [X, 6]]", "receive after infinity -> Y = 1 end, Y", "{Y, 1} = {a, 1}, {foo, Z} = {foo, Y}, Z", "{a, b} = foo", "[A | B] = [1 | 2], {A, B}", "[A, B | _] = [1, 2, 3], {A, B}", "[_ | _] = a", "#{a := A} = #{a => 1}, A", "#{} = a",
                     "A = B = C = 3, {A, B, C}", "self() ! self() ! 1", "begin X = 1, X end + 1", "(fun F(0) -> done; F(N) -> F(N - 1) end)(3)", "F = fun (F) -> F end, F(2)", "X = 1, F = fun X(X) -> X end, F(2)", "case {1, 2} of {A, A} -> A; {A, B} -> {B, A} end", "case [] of [] when hd(1); true -> 1 end",
                     "catch {throw(a), throw(b)}", "try try throw(a) after self() ! b end catch a -> c end", "try throw(a) after throw(b) end", "try 1 of 2 -> 3 after self() ! x end", "try error(a) catch throw:_ -> 1; exit:_ -> 2 end", "if 1 == 2 -> 3 end", "true andalso false orelse throw(x)", "1 andalso 2", "[] orelse 2",
                     "[{A, B} || {A, B} <- [{1, 2}, 3, {4, 5}], A > 1, B]", "[A || A <- [1 | 2]]", "[A || A <- 3]", "[1 || 3]", "apply(fun (A, B) -> {B, A} end, [1, 2])", "apply(m, f, 1)", "(fun m:zz/0)()", "m:zz()", "(1):f()", "(1)()", "(fun (A) -> A end)()", "fun g/0", "make_ref(), {make_ref(), catch make_ref()}",
                     "receive A -> A after a -> 2 end", "receive A when A > 1 -> A after 0 -> none end", "X = 0, receive A -> A after X -> {none, X} end", "X = infinity, receive A -> A after X -> 1 end", "receive A -> A after -1 -> 2 end", "receive {A, B} -> A, B; C -> C after B = 2 -> B end",
                     "receive #{a := A} -> A; [A | _] -> A; <<1, 2>> -> b; -1 -> c after 3 -> d end", "[catch exit(A) || A <- [1, 2]]", "#{1 => 2, 1 => 3}#{1 := 4, 2 => 5}#{2 := 6}", "#{}#{a := 1}", "1#{a => 1}", "(catch hd(1))", "\"ab\" ++ T = \"abc\", T", "case \"abc\" of \"a\" ++ T -> T end", "spawn(m, f, [])", "exit(self(), kill), 1"):
            module = Module("-module(m). -export([f/0]). f() -> self() ! begin " + body + " end, g(). g() -> receive A -> {A, 1} after 0 -> g end.")
            code = self.check(module)
            rng = random.Random(len(body))
            for _ in range(3):
                signals, answers, _ = lived(rng, (module,), (1,), ("m", "f", ()), drawn_signals(rng, (1,)))
                self.same((module,), (code,), (1,), ("m", "f", ()), signals, answers)

    def test_deep_and_long_ones(self):
        for body in ("(" * 20 + "1" + ")" * 20, "{" * 30 + "a" + "}" * 30, "[" + ", ".join("X" for _ in range(100)) + "]", "{" + ", ".join(str(number) for number in range(400)) + "}", "\"" + "a" * 99 + "\"", " + ".join("X" for _ in range(38)), ", ".join(f"Y{number} = {{X, {number}}}" for number in range(200)),
                     "try " * 12 + "throw(X) catch 2 -> 1 after self() ! a end " + "catch 3 -> 1 after self() ! b end " * 11, "[[[[X || _ <- [1]] || _ <- [1, 2]] || _ <- [1]] || _ <- [X]]"):
            module = Module("-module(m). -export([f/1]). f(X) -> self() ! begin " + body + " end.")
            code = self.check(module)
            for term in (1, 3):
                self.same((module,), (code,), (), ("m", "f", (term,)), (), (1,))

    def test_many_calls(self):
        module = Module("-module(m). -export([f/1]). f(N) -> exit({down(N), up(N, 0), sum([A || A <- lists(N, [])])}). down(0) -> 0; down(N) -> 1 + down(N - 1). up(0, N) -> N; up(N, M) -> up(N - 1, M + 1). lists(0, L) -> L; lists(N, L) -> lists(N - 1, [N | L]). sum([]) -> 0; sum([A | B]) -> A + sum(B).")
        code = self.check(module)
        self.assertEqual(("ended", ("tuple", 1500, 1500, 1125750)), coded_alone((code,), (), ("m", "f", (1500,)), (), (1,))[1])

    def test_last_calls_leave_no_place_behind(self):
        module = Module("-module(m). -export([f/1]). f(0) -> receive X -> X end; f(N) -> case N of 5 -> begin if true -> f(N - 1) end end; _ -> f(N - 1) end. g(N) -> try f(N) catch _ -> 1 end.")
        told = stand((self.check(module),), (), ("m", "f", (30,)), (), (1,))
        self.assertEqual(1, len(told[2]))


if __name__ == "__main__":
    unittest.main()
