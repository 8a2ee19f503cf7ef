"""Section 12: records, and weavings that have the same one."""

import random
import unittest

from arrivalmill.errors import BadWeaving, NotSame
from arrivalmill.records import led_over, record, same_run, shows_led_over
from arrivalmill.weavings import heard, next_steps, standing, story
from tests.systems import ALL, MANY, TICK, led, one, walked

GO = ("go", ())
CLOCK, NAMES = ("wait", "timer", "cancel", "clock"), ("give", "free", "who", "end")
CODE = ("full", "load", "purge", "soft", "delete")


def naive(told, weaving):
    """The record by its words, out of stories and of what was heard, step by step."""
    rows, books = {}, {"names": [], "code": [], "clock": []}
    stories = {(): ()}
    for at, step in enumerate(weaving):
        ahead = tuple((path, len(stories[path]), len(rows.get(path, []))) for path in sorted(stories))
        behind = weaving[:at + 1]
        if step == TICK:
            books["clock"].append("tick")
        if step[0] == "come":
            row = rows.setdefault(step[2], [])
            row.append((step[1], len([one_row for one_row in row if one_row[0] == step[1]]), len(stories[step[2]])))
        killed = []
        paths = [row[0] for row in standing(told, behind)]
        done = {path: story(told, behind, path)[len(stories.get(path, ())):] for path in paths}
        order = [step[1]] if step[0] == "go" else []
        for path in order + sorted(path for path in paths if path not in order):
            for look in done[path]:
                number = len(stories.get(path, ()))
                signals = heard(told, behind, path)[0]
                if look == ("end", "killed") and signals and signals[-1][0] == "code":
                    killed.append(path)
                    rows.setdefault(path, []).append(("code", 0, number))
                if look[0] in CLOCK:
                    books["clock"].append((path, number))
                if look[0] in CODE:
                    books["code"].append((path, number, ahead) if look[0] in ("purge", "soft") else (path, number))
                if look[0] in NAMES or (look[0] == "send" and len(look) == 4) or (look[0] == "watch" and isinstance(look[2], str)):
                    books["names"].append((path, number))
                stories[path] = (*stories.get(path, ()), look)
            stories.setdefault(path, ())
        if killed:
            ends = [(path, len(stories[path]) - 1) for path in sorted(killed)]
            others = [row for row in books["names"] if row not in ends]
            books["names"] = others + ends
    told_rows = tuple((path, len(stories[path]), tuple(rows.get(path, []))) for path in sorted(stories))
    return ("record", told_rows, tuple(tuple(books[word]) for word in ("names", "code", "clock")))


class Records(unittest.TestCase):
    def test_a_small_one(self):
        told = one("C = spawn(fun () -> receive X -> X end end), C ! a, monotonic_time(), whereis(b), receive z -> 1 after 1 -> 2 end")
        weaving = led(told, (), 1)
        self.assertEqual(("record", (((), 8, (("clock", 0, 6),)), ((1,), 2, (((), 0, 0),))),
                          ((((), 4), ((1,), 1), ((), 7)), (((), 0),), (((), 3), ((), 5), "tick"))), record(told, weaving))
        self.assertEqual(("record", (((), 0, ()),), ((), (), ())), record(told, ()))

    def test_drawn(self):
        rng = random.Random(21)
        for told in ALL.values():
            for size in (30, 60, 90, 90):
                weaving = walked(told, rng, size)
                self.assertEqual(naive(told, weaving), record(told, weaving))

    def test_what_comes_to_the_gone(self):
        told = one("C = spawn(fun () -> 1 end), C ! a, C ! b, receive z -> 1 end")
        weaving = (GO, GO, ("go", (1,)), GO, GO, ("come", (), (1,)), ("come", (), (1,)))
        self.assertEqual(((1,), 1, (((), 0, 1), ((), 1, 1))), record(told, weaving)[1][1])

    def test_bad_weavings(self):
        for value, number in ((None, -1), ((GO, ("go", (1,))), 1)):
            for call in (lambda: record(MANY, value), lambda: same_run(MANY, value, None), lambda: same_run(MANY, (GO,), value),
                         lambda: led_over(MANY, value, None), lambda: led_over(MANY, (GO,), value), lambda: shows_led_over(MANY, value, None, None),
                         lambda: shows_led_over(MANY, (), value, None)):
                with self.assertRaises(BadWeaving) as caught:
                    call()
                self.assertEqual(number, caught.exception.value)


TWO = one("S = self(), spawn(m, g, [S]), spawn(m, g, [S]), send_after(1, S, t), receive z -> 1 end", "g(P) -> P ! a, whereis(x), receive z -> 1 end.")
START = (GO, GO, GO, GO)
ONE, OTHER = (("go", (1,)),), (("go", (2,)),)


class SameRun(unittest.TestCase):
    def test_what_parts_first(self):
        told = lambda one_weaving, other: same_run(TWO, one_weaving, other)
        self.assertEqual(("same",), told(START, START))
        self.assertEqual(("same",), told(START + ONE + (TICK,), START + (TICK,) + ONE))
        self.assertEqual(("begun", (2,)), told(START[:2] + ONE + ONE, START[:3]))
        self.assertEqual(("begun", (1,)), told((), START))
        self.assertEqual(("begun", (1,)), told(START, ()))
        both = START + ONE * 2 + OTHER * 2
        self.assertEqual(("arrivals", (), 0), told((*both, ("come", (1,), ())), (*both, ("come", (2,), ()))))
        self.assertEqual(("arrivals", (), 1), told((*both, ("come", (1,), ()), ("come", (2,), ())), (*both, ("come", (1,), ()))))
        self.assertEqual(("arrivals", (), 0), told(START[:3] + ONE * 2 + (("come", (1,), ()), GO), START[:3] + ONE * 2 + (GO, ("come", (1,), ()))))
        self.assertEqual(("looks", (1,)), told(START + ONE, START + OTHER))
        self.assertEqual(("looks", ()), told(START + (TICK,), START[:3] + (TICK,)))
        self.assertEqual(("book", "code", 1), told(START + ONE + OTHER, START + OTHER + ONE))
        self.assertEqual(("book", "clock", 2), told(START + (TICK,), START + (TICK, TICK)))
        self.assertEqual(("book", "clock", 0), told(START[:3] + (TICK,) + START[3:], START + (TICK,)))
        whole = START + ONE + OTHER
        one_first, other_first = whole + ONE * 2 + OTHER * 2, whole + OTHER * 2 + ONE * 2
        self.assertEqual(("book", "names", 0), told(one_first, other_first))


class LedOver(unittest.TestCase):
    def shuffled(self, told, weaving, rng, many):
        """A weaving with the same record, by exchanges that were tried."""
        steps, wanted = weaving, record(told, weaving)
        for _ in range(many):
            at = rng.randrange(len(steps) - 1)
            other = (*steps[:at], steps[at + 1], steps[at], *steps[at + 2:])
            try:
                if record(told, other) == wanted:
                    steps = other
            except BadWeaving:
                pass
        return steps

    def test_drawn(self):
        rng = random.Random(31)
        for told in ALL.values():
            for _ in range(6):
                weaving = walked(told, rng, 50)
                other = self.shuffled(told, weaving, rng, 120)
                places = led_over(told, weaving, other)
                self.assertTrue(shows_led_over(told, weaving, other, places))
                self.assertEqual(("same",), same_run(told, weaving, other))
                steps, wanted = weaving, record(told, weaving)
                for place in places:
                    steps = (*steps[:place], steps[place + 1], steps[place], *steps[place + 2:])
                    self.assertEqual(wanted, record(told, steps))
                self.assertEqual(other, steps)
                if places:
                    self.assertFalse(shows_led_over(told, weaving, other, places[:-1]))
                    back = (*places, places[-1], places[-1])
                    self.assertTrue(shows_led_over(told, weaving, other, back))

    def test_each_exchange_is_told_right(self):
        rng = random.Random(32)
        for told in ALL.values():
            for _ in range(8):
                weaving = walked(told, rng, 60)
                wanted = record(told, weaving)
                for at in range(len(weaving) - 1):
                    other = (*weaving[:at], weaving[at + 1], weaving[at], *weaving[at + 2:])
                    try:
                        right = record(told, other) == wanted
                    except BadWeaving:
                        right = False
                    if right:
                        self.assertTrue(shows_led_over(told, weaving, other, (at,)))
                    else:
                        self.assertFalse(shows_led_over(told, weaving, weaving, (at, at)))

    def test_wrong_values(self):
        one_weaving, other = START + ONE + (TICK,), START + (TICK,) + ONE
        self.assertEqual((4,), led_over(TWO, one_weaving, other))
        self.assertEqual((), led_over(TWO, other, other))
        for value in (None, [4], 4, (), (3,), (5,), (-1,), (4, 4), (True,), ("4",), (4, None), ((4,),), (3, 4), (6,), (4, 5)):
            self.assertFalse(shows_led_over(TWO, one_weaving, other, value), value)
        for value in ((4,), (4, 4, 4)):
            self.assertTrue(shows_led_over(TWO, one_weaving, other, value))
        self.assertFalse(shows_led_over(TWO, (TICK, GO), (GO, TICK), (-1,)))
        self.assertTrue(shows_led_over(TWO, (TICK, GO), (GO, TICK), (0,)))
        # Exchanging two equal steps leads to the same weaving.
        self.assertTrue(shows_led_over(TWO, START, START, (1, 1, 2)))
        self.assertFalse(shows_led_over(TWO, START, START, (3,)))

    def test_not_same(self):
        for one_weaving, other, told in ((START, START[:3], ("looks", ())), (START + ONE + OTHER, START + OTHER + ONE, ("book", "code", 1))):
            for call in (lambda: led_over(TWO, one_weaving, other), lambda: shows_led_over(TWO, one_weaving, other, None)):
                with self.assertRaises(NotSame) as caught:
                    call()
                self.assertEqual(told, caught.exception.value)
        self.assertTrue(next_steps(TWO, START))


if __name__ == "__main__":
    unittest.main()
