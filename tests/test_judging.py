"""Section 12: records judged, and the stories that they tell."""

import random
import unittest
from collections import Counter

from arrivalmill.errors import BadRecord, NotRun
from arrivalmill.judging import judged, shows_judged, stories
from arrivalmill.records import record, record_of
from arrivalmill.weavings import standing, steps_next, story
from arrivalmill.world import world_after, world_begun
from tests.systems import ALL, MANY, TICK, led, one, walked

GO = ("go", ())
EMPTY = ("record", (((), 0, ()),), ((), (), ()))


def bent(rng, told):
    """A record with something in it otherwise."""
    rows, books = [[path, looks, list(arrivals)] for path, looks, arrivals in told[1]], [list(book) for book in told[2]]
    row, book = rng.choice(rows), rng.choice(books)
    arrivals = row[2]
    word = rng.choice(("less", "exchanged", "moved", "looks", "book", "lost"))
    at = rng.randrange(len(arrivals)) if arrivals else None
    if word == "less" and arrivals:
        arrivals.pop(at)
    elif word == "exchanged" and at:
        one_row, other = arrivals[at - 1], arrivals[at]
        arrivals[at - 1], arrivals[at] = (*other[:2], one_row[2]), (*one_row[:2], other[2])
    elif word == "moved" and arrivals:
        arrivals[at] = (*arrivals[at][:2], max(0, arrivals[at][2] + rng.choice((-1, 1))))
    elif word == "looks":
        row[1] = max(0, row[1] + rng.choice((-1, 1)))
    elif word == "book" and len(book) > 1:
        place = rng.randrange(len(book) - 1)
        book[place], book[place + 1] = book[place + 1], book[place]
    elif word == "lost" and book:
        book.pop(rng.randrange(len(book)))
    if rng.random() < 0.7:
        for row in rows:
            counts = Counter()
            row[2] = [(sender, (counts.update((sender,)) or counts[sender]) - 1, place) for sender, _, place in row[2]]
    return ("record", tuple((path, looks, tuple(arrivals)) for path, looks, arrivals in rows), tuple(tuple(book) for book in books))


def come_along(told, wanted, rng):
    """How far one comes along a record, whatever is next being done by random."""
    rows = {path: (looks, arrivals) for path, looks, arrivals in wanted[1]}

    def is_along(world):
        so_far = record_of(world)
        limits = [{path: (looks, many) for path, looks, many in row[2]} for row in wanted[2][1][len(so_far[2][1]):] if len(row) == 3]
        for path, looks, arrivals in so_far[1]:
            if path not in rows or looks > rows[path][0] or arrivals != rows[path][1][:len(arrivals)]:
                return False
            if rows[path][1][len(arrivals):] and rows[path][1][len(arrivals)][2] < looks:
                return False
            if any(looks > limit.get(path, (0, 0))[0] or len(arrivals) > limit.get(path, (0, 0))[1] for limit in limits):
                return False
        return all(done == book[:len(done)] for done, book in zip(so_far[2], wanted[2]))

    world = world_begun(told.texts, told.start)
    while True:
        behind = [world_after(world, step) for step in steps_next(world)]
        right = [other for other in behind if is_along(other)]
        if not right:
            break
        world = rng.choice(right)
    so_far = record_of(world)
    if so_far == wanted:
        return ("run",)
    return ("stops", tuple((path, looks, len(arrivals)) for path, looks, arrivals in so_far[1]), tuple(len(book) for book in so_far[2]))


class Judged(unittest.TestCase):
    def test_records_of_runs(self):
        rng = random.Random(41)
        for told in ALL.values():
            for size in (0, 1, 20, 60, 120):
                weaving = walked(told, rng, size)
                wanted = record(told, weaving)
                word, other = judged(told, wanted)
                self.assertEqual(("run", wanted), (word, record(told, other)))
                self.assertTrue(shows_judged(told, wanted, ("run", weaving)))
                self.assertTrue(shows_judged(told, wanted, ("run", other)))
                rows = tuple((path, story(told, weaving, path)) for path, _, _ in standing(told, weaving))
                self.assertEqual(rows, stories(told, wanted))

    def test_bent_records(self):
        rng = random.Random(42)
        seen = Counter()
        for told in ALL.values():
            for _ in range(60):
                wanted = bent(rng, record(told, walked(told, rng, 60)))
                try:
                    told_of = judged(told, wanted)
                except BadRecord as error:
                    self.assertIs(wanted, error.value)
                    seen["bad"] += 1
                    continue
                seen[told_of[0]] += 1
                self.assertTrue(shows_judged(told, wanted, told_of))
                if told_of[0] == "pair":
                    self.assertEqual(self.first_wrong(wanted), told_of)
                elif told_of[0] == "run":
                    self.assertEqual(wanted, record(told, told_of[1]))
                else:
                    self.assertEqual(come_along(told, wanted, rng), told_of)
                if told_of[0] != "run":
                    with self.assertRaises(NotRun) as caught:
                        stories(told, wanted)
                    self.assertEqual(told_of, caught.exception.value)
                    self.assertFalse(shows_judged(told, wanted, ("run", ())))
        self.assertTrue(all(seen[word] > 1 for word in ("bad", "pair", "run", "stops")), seen)

    def first_wrong(self, wanted):
        for path, _, arrivals in wanted[1]:
            for at, (sender, number, _) in enumerate(arrivals):
                if number != len([row for row in arrivals[:at] if row[0] == sender]):
                    return ("pair", path, at)
        return None

    def test_what_stops(self):
        told = one("C = spawn(fun () -> receive X -> X end end), C ! a, C ! b, receive z -> 1 end")
        weaving = (GO,) * 4 + (("come", (), (1,)), ("go", (1,)), ("come", (), (1,)))
        right = record(told, weaving)
        self.assertEqual(("record", (((), 4, ()), ((1,), 1, (((), 0, 0), ((), 1, 1)))), ((), (((), 0),), ())), right)
        row = lambda *arrivals, looks=1: ("record", (right[1][0], ((1,), looks, arrivals)), right[2])
        stops = lambda looks, came, books=(0, 1, 0): ("stops", (((), 4, 0), ((1,), looks, came)), books)
        self.assertEqual(("pair", (1,), 0), judged(told, row(((), 1, 0), ((), 0, 1))))
        self.assertEqual(("pair", (1,), 1), judged(told, row(((), 0, 0), ((), 2, 1))))
        self.assertEqual(stops(0, 0), judged(told, row(((), 0, 1))))
        self.assertEqual(stops(0, 0), judged(told, row()))
        self.assertEqual("run", judged(told, row(((), 0, 0), ((), 1, 0)))[0])
        self.assertEqual(stops(1, 2), judged(told, row(((), 0, 0), ((), 1, 1), ((), 2, 1))))
        self.assertEqual(stops(1, 1), judged(told, row(((), 0, 0), ((), 1, 2), looks=2)))
        self.assertEqual("run", judged(told, ("record", (right[1][0], ((1,), 2, (((), 0, 0), ((), 1, 2)))), ((((1,), 1),), *right[2][1:])))[0])
        self.assertEqual(("stops", (((), 0, 0),), (0, 0, 0)), judged(told, ("record", right[1], ((), (), ()))))
        self.assertEqual(("stops", (((), 1, 0),), (0, 1, 0)), judged(told, ("record", (right[1][0],), right[2])))
        self.assertEqual(("stops", (((), 0, 0),), (0, 0, 0)), judged(told, ("record", (((), 0, ()), ((1,), 0, ())), ((), (), ()))))
        self.assertEqual(("run", (TICK, TICK)), judged(told, ("record", (((), 0, ()),), ((), (), ("tick", "tick")))))

    def test_an_end_is_done_whole(self):
        # An end by what comes is a look, too: it is not done if something is to come ahead of it.
        told = one("C = spawn(fun () -> receive z -> 1 end end), exit(C, a), C ! b, receive z -> 1 end")
        row = lambda *arrivals, looks=1: ("record", (((), 4, ()), ((1,), looks, arrivals)), ((((1,), 0),), (((), 0),), ()))
        self.assertEqual("run", judged(told, row(((), 0, 0), ((), 1, 1)))[0])
        for wrong in (row(((), 0, 0), ((), 1, 0)), row(((), 0, 0), looks=0)):
            self.assertEqual(("stops", (((), 4, 0), ((1,), 0, 0)), (0, 1, 0)), judged(told, wrong))

    def test_cuts(self):
        told = one("C = spawn(m, g, []), C ! a, purge(m), C ! b", "g() -> receive a -> 1 end, receive b -> 1 end.")
        weaving = (GO, GO, GO, ("go", (1,)), ("come", (), (1,)), GO, ("go", (1,)), GO, ("come", (), (1,)), ("go", (1,)), ("go", (1,)))
        right = record(told, weaving)
        self.assertEqual(((((), 0), ((1,), 0), ((), 3, (((), 3, 0), ((1,), 1, 1))))), right[2][1])
        self.assertEqual("run", judged(told, right)[0])
        other = lambda cut: (*right[:2], (right[2][0], (*right[2][1][:2], ((), 3, cut)), right[2][2]))
        self.assertEqual("run", judged(told, other((((), 3, 0), ((1,), 1, 0))))[0])
        self.assertEqual(("stops", (((), 3, 0), ((1,), 1, 1)), (0, 2, 0)), judged(told, other((((), 3, 0), ((1,), 1, 2)))))
        self.assertEqual(("stops", (((), 2, 0), ((1,), 1, 0)), (0, 2, 0)), judged(told, other((((), 2, 0), ((1,), 1, 1)))))
        self.assertEqual(("stops", (((), 3, 0), ((1,), 0, 0)), (0, 1, 0)), judged(told, other((((), 3, 0),))))
        self.assertEqual(("stops", (((), 3, 0), ((1,), 2, 1)), (0, 2, 0)), judged(told, other((((), 3, 0), ((1,), 3, 1)))))

    def test_shown_values(self):
        told = one("self() ! a, receive b -> 1 end")
        weaving = (GO, GO)
        right = record(told, weaving)
        for value in (None, ("run",), ["run", weaving], ("run", list(weaving)), ("run", (GO,)), ("run", (GO, GO, TICK)), ("run", (GO, ("go", (1,)))),
                      ("stops", (), ()), ("run", weaving, 1), (True, weaving), ("run", None)):
            self.assertFalse(shows_judged(told, right, value), value)
        stopped = ("record", (((), 3, ()),), ((), (((), 0),), ()))
        told_of = ("stops", (((), 2, 0),), (0, 1, 0))
        self.assertEqual(told_of, judged(told, stopped))
        self.assertTrue(shows_judged(told, stopped, told_of))
        for value in (("stops", (((), 2, False),), (0, 1, 0)), ("stops", (((), 2, 0),), (0, True, 0)), ("stops", (((), 2, 0),), [0, 1, 0]), None, ("run", weaving)):
            self.assertFalse(shows_judged(told, stopped, value), value)

    def test_bad_records(self):
        good = ("record", (((), 3, (((1,), 0, 0), ("clock", 0, 2))), ((1,), 1, ()), ((1, 1), 0, (("code", 0, 0),))),
                ((((), 1), ((4,), 0)), (((), 0), ((), 2, (((), 1, 0), ((1,), 0, 5)))), ("tick", ((), 1))))
        self.assertEqual("stops", judged(MANY, good)[0])
        rows, books = good[1:]
        values = [None, list(good), good[:2], (*good, 1), ("records", rows, books), (True, rows, books), ("record", list(rows), books), ("record", rows, list(books)),
                  ("record", (), books), ("record", rows[1:], books), ("record", (rows[0], rows[2]), books), ("record", (rows[1], rows[0], rows[2]), books),
                  ("record", (*rows, rows[2]), books), ("record", rows, books[:2]), ("record", rows, (*books, ())), ("record", 5, books)]
        for row in (((), 3), ((), -1, ()), ((), True, ()), ([], 3, ()), ((), 3, []), ((), 3, (((1,), 0),)), ((), 3, (((1,), -1, 0),)), ((), 3, (((1,), True, 0),)),
                    ((), 3, (((1,), 0, 4),)), ((), 3, (((1,), 0, -1),)), ((), 3, (((1,), 0, 2), ((1,), 1, 1))), ((), 3, (((), 0, 0),)), ((), 3, (("other", 0, 0),)),
                    ((), 3, ((None, 0, 0),)), ((), 3, ([(1,), 0, 0],)), ((), 3, (), 1), None, ((0,), 3, ()), ((), 3, (((1,), 0, False),)), ((), 3, ((("a",), 0, 0),))):
            values.append(("record", (row, *rows[1:]), books))
        for at, wrong in ((0, (((), 1, ()),)), (0, ("tick",)), (0, (((), -1),)), (0, (((), True),)), (0, [((), 1)]), (0, ((("a",), 1),)), (0, (((),),)), (0, (1,)),
                          (1, ("tick",)), (1, (((), 1, 5),)), (1, (((), 1, [((), 0, 0)]),)), (1, (((), 1, (((), 0),)),)), (1, (((), 1, (((), 0, -1),)),)),
                          (1, (((), 1, (((1,), 0, 0), ((), 0, 0))),)), (1, (((), 1, (((), 0, 0), ((), 0, 0))),)), (1, (((), 1, (), 1),)), (2, ("tock",)), (2, (((), 1, ()),)),
                          (2, (True,)), (2, (["tick"],))):
            values.append(("record", rows, (*books[:at], wrong, *books[at + 1:])))
        for value in values:
            for call in (lambda: judged(MANY, value), lambda: shows_judged(MANY, value, None), lambda: stories(MANY, value)):
                with self.assertRaises(BadRecord, msg=value) as caught:
                    call()
                self.assertIs(value, caught.exception.value)
        self.assertEqual(("run", ()), judged(MANY, EMPTY))
        self.assertTrue(led(MANY, (), 0, 3))


if __name__ == "__main__":
    unittest.main()
