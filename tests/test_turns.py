"""Section 17: turns; and what of them nobody sees."""

import itertools
import random
import unittest

from arrivalmill.ending import who_ends
from arrivalmill.errors import BadNumber, BadWeaving
from arrivalmill.judging import judged
from arrivalmill.lifting import code_of
from arrivalmill.machine import coded_alone
from arrivalmill.races import went_on
from arrivalmill.records import record
from arrivalmill.single import alone
from arrivalmill.turns import by_turns, same_stories
from arrivalmill.weavings import heard, next_steps, on_way, standing, story
from tests.systems import ALL, MANY, beginning, led, one, system, walked, world_of
from tests.test_allruns import drawn

GO, TICK = ("go", ()), ("tick",)
THREE = system("""-module(m). -export([f/0, g/1]). f() -> A = spawn(m, g, [self()]), B = spawn(m, g, [A]), B ! go, A ! go, receive X -> X end, monotonic_time().
g(P) -> monotonic_time(), receive go -> P ! done, monotonic_time() after 3 -> P ! late end.""")


def naive(told, share, hands, most):
    """The rule of turns, word for word, over next_steps and standing alone."""
    weaving, queue, held, done, goes = (), [()], [None] * hands, [0] * hands, 0
    ready = [()]
    def words():
        return {path: word for path, word, _ in standing(told, weaving)}
    def do(step):
        nonlocal weaving, ready
        weaving += (step,)
        now = words()
        for row in (queue,):
            row[:] = [path for path in row if now[path] != "ended"]
        for at, path in enumerate(held):
            if path is not None and now[path] == "ended":
                held[at] = None
        fresh = sorted(path for path, word in now.items() if word == "ready" and path not in ready and path not in held)
        queue.extend(fresh)
        ready = [path for path, word in now.items() if word == "ready"]
    def let_come():
        while True:
            comings = [step for step in next_steps(told, weaving) if step[0] == "come"]
            if not comings:
                return
            do(comings[0])
    while True:
        for at in range(hands):
            if held[at] is None and queue:
                held[at], done[at] = queue.pop(0), 0
        if held == [None] * hands:
            if went_on(told, weaving) == weaving:
                return weaving, "over"
            if goes == most:
                return weaving, "most"
            do(TICK)
            let_come()
            continue
        for at in range(hands):
            if held[at] is None:
                continue
            if goes == most:
                return weaving, "most"
            path = held[at]
            do(("go", path))
            goes += 1
            done[at] += 1
            let_come()
            if held[at] is None:
                continue
            if words()[path] != "ready":
                held[at] = None
            elif done[at] == share:
                held[at] = None
                queue.append(path)


class Rule(unittest.TestCase):
    def test_one_hand(self):
        told = one("spawn(m, g, [1]), spawn(m, g, [2]), monotonic_time(), monotonic_time()", "g(X) -> monotonic_time(), X.")
        first, second = ("go", (1,)), ("go", (2,))
        self.assertEqual(((GO, GO, first, GO, first, second, GO, first, second, GO, second, GO), "over"), by_turns(told, 1, 1, 400))
        self.assertEqual(((GO, GO, GO, GO, GO, GO, first, first, first, second, second, second), "over"), by_turns(told, 99, 1, 400))
        self.assertEqual(((GO, GO, GO, first, first, first, second, second, second, GO, GO, GO), "over"), by_turns(told, 3, 1, 400))

    def test_more_hands(self):
        told = one("spawn(m, g, [1]), spawn(m, g, [2]), monotonic_time(), monotonic_time()", "g(X) -> monotonic_time(), X.")
        first, second = ("go", (1,)), ("go", (2,))
        self.assertEqual(((GO, GO, GO, first, GO, first, second, GO, first, second, GO, second), "over"), by_turns(told, 99, 3, 400))
        self.assertEqual((GO, GO, GO, first), by_turns(told, 99, 2, 4)[0])
        self.assertEqual((GO, GO, first, GO), by_turns(told, 1, 1, 4)[0])

    def test_comings_come_behind_each_go(self):
        told = one("C = spawn(m, g, [self()]), C ! a, receive X -> X end", "g(P) -> receive Y -> P ! Y end.")
        child = ("go", (1,))
        self.assertEqual(((GO, GO, GO, ("come", (), (1,)), child, child, child, ("come", (1,), ()), child, GO, GO), "over"), by_turns(told, 99, 1, 400))

    def test_ticks(self):
        told = one("receive after 2 -> monotonic_time() end")
        self.assertEqual(((GO, GO, TICK, TICK, ("come", "clock", ()), GO, GO, GO), "over"), by_turns(told, 5, 1, 400))
        self.assertEqual(((GO, GO), "most"), by_turns(told, 5, 1, 2))
        gone = one("send_after(3, self(), x)")
        self.assertEqual(((GO, GO, GO, TICK, TICK, TICK, ("come", "clock", ())), "over"), by_turns(gone, 5, 1, 400))
        self.assertEqual(((GO, GO, GO), "most"), by_turns(gone, 5, 1, 3))

    def test_most(self):
        self.assertEqual(((), "most"), by_turns(THREE, 1, 1, 0))
        told = one("1")
        self.assertEqual(((GO,), "most"), by_turns(told, 1, 1, 1))
        self.assertEqual(((GO, GO), "over"), by_turns(told, 1, 1, 2))
        sent = one("C = spawn(m, g, []), C ! a, C ! b", "g() -> receive b -> 1 end.")
        self.assertEqual((GO, GO, GO, ("come", (), (1,))), by_turns(sent, 99, 1, 3)[0])

    def test_for_ever(self):
        told = system("-module(m). -export([f/0]). f() -> monotonic_time(), m:f().")
        weaving, why = by_turns(told, 7, 2, 399)
        self.assertEqual((399, "most"), (len(weaving), why))

    def test_word_for_word(self):
        rng = random.Random(5)
        for told in (*ALL.values(), THREE, *(drawn(rng) for _ in range(25))):
            for _ in range(2):
                share, hands, most = rng.choice((1, 2, 3, 7, 99)), rng.randint(1, 4), rng.choice((5, 20, 60, 90))
                self.assertEqual(naive(told, share, hands, most), by_turns(told, share, hands, most))

    def test_it_is_a_weaving_whose_record_is_a_runs(self):
        for told in (MANY, ALL["editions"], THREE):
            for share, hands in ((1, 1), (2, 3), (99, 4)):
                weaving, why = by_turns(told, share, hands, 120)
                self.assertEqual("run", judged(told, record(told, weaving))[0])
                self.assertFalse(on_way(told, weaving))
                if why == "over":
                    self.assertEqual(weaving, went_on(told, weaving))

    def test_what_was_heard_leads_alone_and_code_through_stories(self):
        for told in (MANY, THREE, ALL["alone"]):
            codes = tuple(code_of(module) for module in told.modules)
            for share, hands in ((1, 2), (3, 1), (50, 4)):
                weaving, _ = by_turns(told, share, hands, 150)
                world = world_of(told, weaving)
                for path in world.doers:
                    start = told.start if path == () else beginning(world, path)
                    if start is not None:
                        signals, answers = heard(told, weaving, path)
                        looks, end = alone(told.modules, path, start, signals, answers)
                        self.assertEqual(story(told, weaving, path), looks[:len(story(told, weaving, path))])
                        self.assertEqual((looks, end), coded_alone(codes, path, start, signals, answers))

    def test_who_ends_is_whom_who_ends_tells(self):
        rng = random.Random(12)
        several = 0
        for _ in range(40):
            many = rng.randint(2, 5)
            pids = tuple(("pid", (number,)) for number in range(1, many + 1))
            ties = tuple(pair for pair in itertools.combinations(pids, 2) if rng.random() < 0.5)
            trappers = tuple(pid for pid in pids if rng.random() < 0.3)
            falls = tuple((pid, rng.choice(("a", "b"))) for pid in rng.sample(pids, rng.randint(1, 2)))
            body = "P = [spawn(m, g, []) || _ <- [" + ", ".join("1" for _ in pids) + "]], S = self(), "
            at = lambda pid: "at(" + str(pid[1][0]) + ", P)"
            deeds = [at(one) + " ! {link, S, " + at(other) + "}, receive done -> ok end" for one, other in ties] + [at(pid) + " ! {trap, S}, receive done -> ok end" for pid in trappers]
            deeds += ["receive after 1 -> ok end"] + [at(pid) + " ! {fall, " + reason + "}" for pid, reason in falls]
            told = one(body + ", ".join(deeds), "at(1, [X | _]) -> X; at(N, [_ | Y]) -> at(N - 1, Y). g() -> receive {link, S, P} -> link(P), S ! done, g(); {trap, S} -> process_flag(trap_exit, true), S ! done, g(); {fall, R} -> exit(R) end.")
            weaving, why = by_turns(told, rng.choice((1, 3, 99)), rng.randint(1, 4), 400)
            self.assertEqual("over", why)
            ended = tuple(("pid", path) for path, word, _ in standing(told, weaving) if word == "ended" and path != ())
            wanted = who_ends((pids, ties, trappers), falls)
            self.assertEqual(tuple(pid for pid, _ in wanted), ended)
            several += len(ended) > len(falls)
        self.assertGreater(several, 8)

    def test_errors_in_their_sequence(self):
        wrong = (None, True, "1", (1,), [], -1, 10 ** 20)
        for value in (*wrong, 0, 100):
            with self.assertRaises(BadNumber) as caught:
                by_turns(THREE, value, None, None)
            self.assertIs(value, caught.exception.value)
        for value in (*wrong, 0, 5):
            with self.assertRaises(BadNumber) as caught:
                by_turns(THREE, 99, value, None)
            self.assertIs(value, caught.exception.value)
        for value in (*wrong, 401):
            with self.assertRaises(BadNumber) as caught:
                by_turns(THREE, 1, 4, value)
            self.assertIs(value, caught.exception.value)
        self.assertEqual(by_turns(THREE, 2, 3, 40), by_turns(most=40, hands=3, share=2, system=THREE))


class Stories(unittest.TestCase):
    def test_the_same_and_what_parts(self):
        told = one("spawn(m, g, [self()]), spawn(m, g, [self()]), receive {P, _} -> P end", "g(P) -> P ! {self(), 1}.")
        base = led(told)
        self.assertEqual(("same",), same_stories(told, base, base))
        self.assertEqual(("same",), same_stories(told, (), ()))
        self.assertEqual(("parts", (), 0), same_stories(told, (), (GO,)))
        self.assertEqual(("parts", (), 0), same_stories(told, (GO,), ()))
        self.assertEqual(("parts", (1,), 0), same_stories(told, (GO, GO, ("go", (1,))), (GO, GO)))
        self.assertEqual(("same",), same_stories(told, (GO, GO, GO), (GO, GO, GO, TICK)))
        ahead = (GO, GO, GO, *[("go", (1,))] * 2, *[("go", (2,))] * 2)
        one_first = (*ahead, ("come", (1,), ()), ("come", (2,), ()), GO)
        other = (*ahead, ("come", (2,), ()), ("come", (1,), ()), GO)
        self.assertEqual(("parts", (), 3), same_stories(told, one_first, other))
        self.assertEqual(("same",), same_stories(told, one_first[:-1], other[:-1]))

    def test_turns_do_not_matter_without_races(self):
        told = one("C = spawn(m, g, [self()]), receive {C, X} -> C ! X end", "g(P) -> P ! {self(), 1}, receive Y -> Y end.")
        base = by_turns(told, 1, 1, 400)[0]
        for share in (1, 2, 99):
            for hands in (1, 2, 4):
                self.assertEqual(("same",), same_stories(told, base, by_turns(told, share, hands, 400)[0]))

    def test_by_random(self):
        rng = random.Random(3)
        for _ in range(40):
            weavings = [walked(MANY, rng, rng.choice((20, 60))) for _ in range(2)]
            stories = [{path: story(MANY, weaving, path) for path, _, _ in standing(MANY, weaving)} for weaving in weavings]
            wanted = ("same",)
            for path in sorted({**stories[0], **stories[1]}):
                looks = [rows.get(path, ()) for rows in stories]
                if looks[0] != looks[1]:
                    at = 0
                    while at < min(len(looks[0]), len(looks[1])) and looks[0][at] == looks[1][at]:
                        at += 1
                    wanted = ("parts", path, at)
                    break
            self.assertEqual(wanted, same_stories(MANY, *weavings))

    def test_errors_in_their_sequence(self):
        for value, number in ((None, -1), ([], -1), ((TICK, 1), 1), ((("go", (1,)),), 0), (((),), 0)):
            for arguments in ((value, None), ((), value)):
                with self.assertRaises(BadWeaving) as caught:
                    same_stories(THREE, *arguments)
                self.assertEqual(number, caught.exception.value)
        self.assertEqual(("same",), same_stories(other=(), one=(), system=THREE))


if __name__ == "__main__":
    unittest.main()
