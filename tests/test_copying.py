"""Section 18, heap_alone; section 3 (b): plain meaning, code, and code with a heap of words tell the same looks."""

import random
import unittest

from arrivalmill.copying import heap_alone
from arrivalmill.errors import Astray, BadAnswers, BadCodes, BadPath, BadRoom, BadSignals, BadStart, MillError
from arrivalmill.heaps import ROOMS
from arrivalmill.lifting import code_of
from arrivalmill.machine import coded_alone
from arrivalmill.reading import Module
from arrivalmill.single import alone
from arrivalmill.weavings import heard
from tests.programs import drawn_module, drawn_signals, lived
from tests.systems import ALL, beginning, walked, world_of
from tests.test_checked import drawn_codes, has_ring
from tests.test_lifting import LONG
from tests.test_machine import START, code
from arrivalmill.rows import Code

LISTS = Module("""-module(m). -export([f/1]). f(N) -> L = up(N), self() ! {rev(L, []), length(L)}, M = put(L, #{}), receive {R, K} -> exit({sum(R), K, map_size(M), [X || {X, Y} <- map_to_list(M), Y rem 7 == 0], big(N, 1), size(deep(7, a))}) end.
up(0) -> []; up(N) -> [N | up(N - 1)]. rev([], A) -> A; rev([X | Y], A) -> rev(Y, [X | A]). sum([]) -> 0; sum([X | Y]) -> X + sum(Y). put([], M) -> M; put([X | Y], M) -> put(Y, M#{X => X * 3, last => fun () -> {X, Y} end}#{X := X * 2}).
big(0, A) -> A; big(N, A) -> big(N - 1, A * 3). size({A, B, [C]}) -> size(A) + size(B) + size(C); size(_) -> 1. deep(0, A) -> A; deep(N, A) -> deep(N - 1, {A, A, [A]}).""")


def told(call, *arguments, **named):
    try:
        return ("returns", call(*arguments, **named))
    except MillError as error:
        return ("raises", type(error).__name__, error.value)


class HeapAlone(unittest.TestCase):
    def same(self, rng, modules, codes, *arguments):
        plain = told(alone, modules, *arguments)
        self.assertEqual(plain, told(coded_alone, codes, *arguments))
        for room, always in ((12, False), (12, True), (rng.choice(ROOMS), rng.choice((True, False)))):
            self.assertEqual(plain, told(heap_alone, codes, *arguments, room=room, always=always))
        self.assertEqual(plain, told(heap_alone, codes, *arguments))

    def test_programs_by_random(self):
        rng = random.Random(31)
        for _ in range(60):
            module = drawn_module(rng, rng.choice((2, 3, 3)))
            codes = (code_of(module),)
            signals, answers, _ = lived(rng, (module,), (1,), ("m", "f", ()), drawn_signals(rng, (1,)))
            self.same(rng, (module,), codes, (1,), ("m", "f", ()), signals, answers)
            self.same(rng, (module,), codes, (1,), ("m", "f", ()), signals, answers[:len(answers) // 2])

    def test_all_kinds_of_forms(self):
        rng = random.Random(32)
        module = Module(LONG)
        for _ in range(12):
            signals, answers, _ = lived(rng, (module,), (1,), ("m", "f", ()), drawn_signals(rng, (1,)))
            self.same(rng, (module,), (code_of(module),), (1,), ("m", "f", ()), signals, answers)

    def test_processes_of_runs(self):
        rng = random.Random(33)
        for name in ("many", "alone"):
            system = ALL[name]
            codes = tuple(code_of(module) for module in system.modules)
            for _ in range(4):
                weaving = walked(system, rng, 150)
                world = world_of(system, weaving)
                for path in world.doers:
                    start = system.start if path == () else beginning(world, path)
                    if start is not None:
                        self.same(rng, system.modules, codes, path, start, *heard(system, weaving, path))

    def test_long_lists_great_numbers_and_maps(self):
        codes = (code_of(LISTS),)
        for many in (0, 1, 7, 60, 300):
            arguments = ((), ("m", "f", (many,)), (), (1,))
            plain = told(coded_alone, codes, *arguments)
            self.assertEqual(plain, told(heap_alone, codes, *arguments))
            self.assertEqual(plain, told(heap_alone, codes, *arguments, room=932, always=many < 100))
        self.assertEqual(told(alone, (LISTS,), (), ("m", "f", (40,)), (), (1,)), told(heap_alone, codes, (), ("m", "f", (40,)), (), (1,), always=True))

    def test_code_by_hand(self):
        rng, codes = drawn_codes(15, 120)
        for one in codes:
            if has_ring(one):
                continue
            exporting = Code(one.text.replace("\nlabel 0", "\nexport f 1\nlabel 0", 1))
            for value in (1, ("list", 1), ("tuple", "a", ("list", 2))):
                arguments = ((), ("m", "f", (value,)), tuple(((1,), ("letter", rng.choice(("a", 1, ("list", 1)))), 0) for _ in range(rng.randint(0, 2))), (1,))
                self.assertEqual(told(coded_alone, (exporting,), *arguments), told(heap_alone, (exporting,), *arguments, always=rng.random() < 0.5))

    def test_errors_in_their_sequence(self):
        one = code("move c0 x0", "return")
        wandering = code("move x5 x0")
        for kind, value, arguments in ((BadCodes, None, (None, None, None, None, None)), (BadPath, 5, ((one,), 5, None, None, None)), (BadStart, 5, ((one,), (), 5, None, None)), (BadSignals, -1, ((one,), (), START, None, None)), (BadAnswers, -1, ((one,), (), START, (), None)), (BadAnswers, 0, ((one,), (), START, (), (7,))),
                                       (BadSignals, 0, ((one,), (), START, (((9,), ("letter", 1), 9),), (1,))), (Astray, ("m", 1), ((wandering,), (), START, (), (1,)))):
            for room in (None, 12):
                with self.assertRaises(kind) as caught:
                    heap_alone(*arguments, room=room)
                self.assertEqual(value, caught.exception.value)
        for value in (0, 13, True, None, "12", (12,), [12], 10 ** 9, -12):
            with self.assertRaises(BadRoom) as caught:
                heap_alone((one,), (), START, (), (1,), room=value)
            self.assertIs(value, caught.exception.value)

    def test_by_name(self):
        one = code("move c0 x0", "return")
        wanted = coded_alone((one,), (), START, (), (1,))
        self.assertEqual(wanted, heap_alone(always=True, room=20, answers=(1,), signals=(), start=START, path=(), codes=(one,)))
        for always in (1, None, "true", [], 0):
            self.assertEqual(wanted, heap_alone((one,), (), START, (), (1,), always=always))
        self.assertRaises(TypeError, heap_alone, (one,), (), START, (), (1,), 12)


if __name__ == "__main__":
    unittest.main()
