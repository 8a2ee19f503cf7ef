"""Section 13: runs led on, what hangs on what, and races."""

import random
import unittest

from arrivalmill.errors import BadWeaving, Endless, NoRace
from arrivalmill.races import race_parts, races, turned_at, went_on
from arrivalmill.records import record
from arrivalmill.weavings import heard, next_steps, on_way, standing, story
from tests.systems import ALL, MANY, TICK, led, one, system, walked

GO, CHILD = ("go", ()), ("go", (1,))


def telling(told, weaving):
    return tuple((row[0], story(told, weaving, row[0])) for row in standing(told, weaving))


def set_timers(told, weaving):
    """How many timers are set, by the words of section 13, out of stories."""
    moments, ticks = {}, 0
    positions = {row[0]: 0 for row in standing(told, weaving)}
    done = {}
    for at, step in enumerate(weaving):
        ticks += step == TICK
        behind = weaving[:at + 1]
        for path, _, _ in standing(told, behind):
            looks = story(told, behind, path)
            for number in range(positions[path], len(looks)):
                look = looks[number]
                if look[0] == "timer" and look[3] > 0:
                    moments[look[1]] = ticks + look[3]
                if look[0] == "wait":
                    moments[("wait", path)] = ticks + look[1]
                elif ("wait", path) in moments:
                    del moments[("wait", path)]
                if look[0] == "cancel":
                    moments.pop(look[1], None)
            positions[path] = len(looks)
        done[at] = ticks
    return [key for key, moment in moments.items() if moment > ticks]


class WentOn(unittest.TestCase):
    def test_by_the_told_rule(self):
        rng = random.Random(51)
        for told in ALL.values():
            for _ in range(4):
                weaving = walked(told, rng, rng.randint(0, 50))
                behind = went_on(told, weaving)
                self.assertEqual(weaving, behind[:len(weaving)])
                for at in range(len(weaving), len(behind), 3):
                    steps = next_steps(told, behind[:at])
                    self.assertEqual(steps[0], behind[at])
                    if steps == (TICK,):
                        self.assertTrue(set_timers(told, behind[:at]))
                self.assertEqual((TICK,), next_steps(told, behind))
                self.assertEqual((), on_way(told, behind))
                self.assertEqual([], set_timers(told, behind))
                self.assertEqual(behind, went_on(told, behind))

    def test_timers_that_are_set(self):
        for body, ticks in (("receive z -> 1 after 3 -> 1 end", 3), ("self() ! z, receive z -> 1 after 3 -> 1 end", 0), ("send_after(2, self(), z)", 2),
                            ("cancel_timer(send_after(2, self(), z))", 0), ("send_after(0, self(), z)", 0), ("send_after(1, self(), z), receive z -> 1 after 3 -> 1 end", 1),
                            ("send_after(1, self(), z), receive z -> 1 after 3 -> 1 end, send_after(4, self(), z), receive y -> 1 after 1 -> 1 end", 5),
                            ("receive z -> 1 after infinity -> 1 end", 0), ("C = spawn(fun () -> receive z -> 1 after 4 -> 1 end end), receive y -> 1 after 1 -> exit(C, kill) end", 1)):
            self.assertEqual(ticks, went_on(one(body), ()).count(TICK), body)

    def test_endless(self):
        for body, ends in (("f()", False), ("self() ! a, f()", False), ("l(199)", True), ("l(200)", False)):
            told = one(body, "l(0) -> ok; l(N) -> self() ! a, receive a -> l(N - 1) end.")
            if ends:
                self.assertEqual(400, len(story(told, went_on(told, ()), ())))
            elif body != "f()":
                with self.assertRaises(Endless) as caught:
                    went_on(told, ())
                self.assertEqual(400, caught.exception.value)

    def test_bad_weavings(self):
        for value, number in ((None, -1), ([GO], -1), ((GO, ("go", (7,))), 1)):
            for call in (lambda: went_on(MANY, value), lambda: races(MANY, value), lambda: turned_at(MANY, value, None), lambda: race_parts(MANY, value, 1)):
                with self.assertRaises(BadWeaving) as caught:
                    call()
                self.assertEqual(number, caught.exception.value)


class Steps:
    """The steps of a weaving by their words: whose they are, what they send and ask, found by going along it."""

    def __init__(self, told, weaving):
        self.told, self.weaving = told, weaving
        self.rows = []
        sent, begun = {}, {}
        ahead_books, known = ((), (), ()), [()]
        for at, step in enumerate(weaving):
            ahead, behind = weaving[:at], weaving[:at + 1]
            causes = set()
            if step[0] == "come":
                causes.add(sent[step[1:]].pop(0))
            if step[0] == "go" and story(told, ahead, step[1]) == () and step[1] in begun:
                causes.add(begun[step[1]])
            before = {row[:2]: len(row[2]) for row in on_way(told, ahead)}
            if step[0] == "come":
                before[step[1:]] -= 1
            for row in on_way(told, behind):
                sent.setdefault(row[:2], []).extend([at] * (len(row[2]) - before.get(row[:2], 0)))
            for row in standing(told, behind):
                if row[0] not in known:
                    begun[row[0]] = at
            books = record(told, behind)[2]
            asked = {word for word, one_book, other in zip(("names", "code", "clock"), books, ahead_books) if one_book != other}
            looks = story(told, behind, step[1])[len(story(told, ahead, step[1])):] if step[0] == "go" else ()
            purges = any(look[0] in ("purge", "soft") for look in looks)
            whose = {step[-1]} if step != TICK else set()
            self.rows.append((whose | set(known) if purges else whose, causes, asked, purges, step))
            ahead_books, known = books, [row[0] for row in standing(told, behind)]
        size = len(weaving)
        self.hangs = [[False] * size for _ in range(size)]
        for other in range(size):
            for first in range(other - 1, -1, -1):
                middle = any(self.hangs[first][k] and self.hangs[k][other] for k in range(first + 1, other))
                self.hangs[first][other] = middle or self.at_once(first, other)

    def at_once(self, one_step, other):
        return one_step in self.rows[other][1] or self.shares(one_step, other)

    def shares(self, one_step, other):
        first, last = self.rows[one_step], self.rows[other]
        if first[3] or last[3]:
            of_one = first[0] & {last[4][-1]} if last[4] != TICK else set()
            of_other = last[0] & {first[4][-1]} if first[4] != TICK else set()
            return bool(of_one or of_other or first[2] & last[2])
        return bool(first[0] & last[0] or first[2] & last[2])

    def races(self):
        found = []
        for other in range(len(self.rows)):
            for first in range(other):
                if self.shares(first, other) and first not in self.rows[other][1]:
                    if not any(self.hangs[first][k] and self.hangs[k][other] for k in range(first + 1, other)):
                        found.extend((word, first, other) for word in self.words(first, other))
        return tuple(sorted(found))

    def words(self, first, other):
        early, late = self.rows[first][4], self.rows[other][4]
        doer = lambda step: "clock" if step == TICK else step[-1]
        if early[0] == late[0] == "come" and early[2] == late[2] and early[1] != late[1]:
            yield "comes"
        if early[0] == "come" and late[0] == "go" and early[2] == late[1]:
            if dict((row[0], row[1]) for row in standing(self.told, self.weaving[:first]))[late[1]] == "ready":
                yield "late"
        if early[0] == "go" and late[0] == "come" and early[1] == late[2]:
            yield "early"
        if self.rows[first][2] & self.rows[other][2] and doer(early) != doer(late):
            yield "books"
        for one_row, row in ((self.rows[first], self.rows[other]), (self.rows[other], self.rows[first])):
            if one_row[3] and row[4] != TICK and row[4][-1] != one_row[4][1]:
                yield "purges"
                return

    def turned(self, race):
        _, first, other = race
        between = [k for k in range(first + 1, other) if not self.hangs[first][k]]
        steps = (*self.weaving[:first], *(self.weaving[k] for k in [*between, other]))
        return (*steps, self.weaving[first]) if self.weaving[first] in next_steps(self.told, steps) else steps


class Races(unittest.TestCase):
    def test_drawn(self):
        rng = random.Random(52)
        seen = set()
        for told in ALL.values():
            for _ in range(4):
                weaving = walked(told, rng, 40)
                steps = Steps(told, weaving)
                found = races(told, weaving)
                self.assertEqual(steps.races(), found)
                seen |= {race[0] for race in found}
                for race in rng.sample(found, min(6, len(found))):
                    self.assertEqual(steps.turned(race), turned_at(told, weaving, race))
                    self.parts(told, weaving, steps, race)
        self.assertEqual({"comes", "late", "early", "books", "purges"}, seen)

    def parts(self, told, weaving, steps, race):
        """What race_parts tells, by its words."""
        _, first, other = race
        between = tuple(weaving[k] for k in range(first + 1, other) if not steps.hangs[first][k])
        one_run = went_on(told, weaving[:first] + between + (weaving[first], weaving[other]))
        other_run = went_on(told, steps.turned(race))
        stories, others = dict(telling(told, one_run)), dict(telling(told, other_run))
        parting = [path for path in sorted({**stories, **others}) if stories.get(path) != others.get(path)]
        wanted = ("parts", parting[0], one_run, other_run) if parting else ("same", one_run, other_run)
        self.assertEqual(wanted, race_parts(told, weaving, race))

    def test_comes(self):
        told = one("S = self(), spawn(fun () -> S ! a end), spawn(fun () -> S ! b end), receive X -> exit(X) end")
        weaving = (GO, GO, GO, CHILD, CHILD, ("go", (2,)), ("go", (2,)), ("come", (1,), ()), ("come", (2,), ()), GO, GO)
        pairs = [race for race in races(told, weaving) if race[0] == "comes"]
        self.assertEqual(1, len(pairs))
        word, path, one_run, other_run = race_parts(told, weaving, pairs[0])
        self.assertEqual(("parts", ()), (word, path))
        self.assertEqual([("end", "a"), ("end", "b")], [story(told, run, ())[-1] for run in (one_run, other_run)])
        self.assertEqual((*weaving[:7], weaving[8], weaving[7]), turned_at(told, weaving, pairs[0]))

    def test_late_and_early(self):
        told = one("spawn(m, g, [self()]), receive a -> exit(a) after 0 -> exit(none) end", "g(P) -> P ! a.")
        early = (GO, GO, CHILD, CHILD, GO, ("come", (1,), ()))
        late = (GO, GO, CHILD, CHILD, ("come", (1,), ()), GO)
        self.assertIn(("early", 4, 5), races(told, early))
        self.assertIn(("late", 4, 5), races(told, late))
        self.assertEqual(late, turned_at(told, early, ("early", 4, 5)))
        self.assertEqual(early, turned_at(told, late, ("late", 4, 5)))
        self.assertEqual("parts", race_parts(told, early, ("early", 4, 5))[0])
        # A process that waits goes on only by what comes: no race.
        waits = one("spawn(m, g, [self()]), receive a -> exit(a) end", "g(P) -> P ! a.")
        self.assertEqual([], [race for race in races(waits, late) if race[0] == "late"])

    def test_books(self):
        told = one("spawn(m, g, [a]), spawn(m, g, [b])", "g(X) -> monotonic_time(), catch register(n, self()), X.")
        weaving = led(told) + (TICK,)
        found = races(told, weaving)
        self.assertTrue({"books"} == {race[0] for race in found})
        ticks = [race for race in found if weaving[race[2]] == TICK]
        self.assertEqual(1, len(ticks))
        outcomes = {race_parts(told, weaving, race)[0] for race in found}
        self.assertEqual({"same", "parts"}, outcomes)
        self.assertEqual((), races(told, (TICK, TICK)))

    def test_what_one_sent_is_no_race(self):
        told = one("C = spawn(fun () -> receive X -> X end end), C ! a, send_after(0, self(), b), receive b -> 1 end")
        self.assertEqual(set(), {race[0] for race in races(told, led(told))} - {"books"})

    def test_what_cannot_be_done_then(self):
        told = one("C = spawn(m, g, []), exit(C, bad), receive z -> 1 end", "g() -> whereis(a), receive z -> 1 end.")
        weaving = (GO, GO, GO, CHILD, CHILD, ("come", (), (1,)))
        self.assertIn(("early", 4, 5), races(told, weaving))
        self.assertEqual((*weaving[:4], weaving[5]), turned_at(told, weaving, ("early", 4, 5)))
        self.assertEqual(("parts", (1,)), race_parts(told, weaving, ("early", 4, 5))[:2])

    def test_purges(self):
        told = system("-module(m). -export([f/0, g/1]). f() -> spawn(m, g, [v:mk()]), load(v, 0), purge(v). g(F) -> self() ! 1, F, 2.",
                      "-module(v). -export([mk/0]). mk() -> fun () -> 1 end.")
        weaving = (GO, GO, GO, CHILD, CHILD, GO, GO)
        self.assertEqual("v", story(told, weaving, ())[-1][1])
        self.assertEqual(0, story(told, weaving, ())[-1][2])
        found = races(told, weaving)
        self.assertIn(("purges", 4, 6), found)
        turned = turned_at(told, weaving, ("purges", 4, 6))
        self.assertEqual((*weaving[:4], GO, GO), turned[:6])
        self.assertEqual(("end", "killed"), story(told, turned, (1,))[-1])
        self.assertEqual(6, len(turned))
        self.assertEqual((("code", ("exit", "kill", False, 0), 1),), heard(told, turned, (1,))[0])

    def test_two_that_end_by_what_comes(self):
        told = one("C = spawn(m, g, [self()]), exit(C, kill), receive z -> 1 end", "g(P) -> exit(P, kill), receive z -> 1 end.")
        weaving = (GO, GO, GO, CHILD, CHILD, ("come", (1,), ()), ("come", (), (1,)))
        self.assertEqual([("books", 5, 6)], [race for race in races(told, weaving) if race[1] == 5])
        self.assertEqual((*weaving[:5], weaving[6], weaving[5]), turned_at(told, weaving, ("books", 5, 6)))
        self.assertEqual("same", race_parts(told, weaving, ("books", 5, 6))[0])

    def test_no_race(self):
        told = one("S = self(), spawn(fun () -> S ! a end), spawn(fun () -> S ! b end), receive X -> exit(X) end")
        weaving = led(told)
        right = races(told, weaving)[0]
        for value in (None, (), list(right), right[:2], (*right, 1), ("comes", 0, 1), (right[0], right[1], True), ("other", *right[1:]), (right[0], right[2], right[1]), 1):
            for call in (turned_at, race_parts):
                with self.assertRaises(NoRace) as caught:
                    call(told, weaving, value)
                self.assertIs(value, caught.exception.value)

    def test_endless_parts(self):
        told = one("S = self(), spawn(fun () -> S ! a end), spawn(fun () -> S ! b end), receive a -> 1; b -> l() end", "l() -> self() ! x, l().")
        weaving = (GO, GO, GO, CHILD, ("go", (2,)), ("come", (1,), ()), ("come", (2,), ()))
        self.assertEqual((("comes", 5, 6),), tuple(race for race in races(told, weaving) if race[0] == "comes"))
        with self.assertRaises(Endless) as caught:
            race_parts(told, weaving, ("comes", 5, 6))
        self.assertEqual(400, caught.exception.value)
        self.assertEqual((*weaving[:5], weaving[6], weaving[5]), turned_at(told, weaving, ("comes", 5, 6)))


if __name__ == "__main__":
    unittest.main()
