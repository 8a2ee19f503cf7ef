"""Section 10, FOR ALL deeds of two processes that live, and all weavings of these and of the signals between them.

A state is what both keep, what is on the way between them, what they still do, and what was seen of their ties and
watches. All states that small rows of deeds lead to are gone through.
"""

import itertools
import unittest

from arrivalmill.exits import clerk, come, ended
from arrivalmill.ties import begun, born, tie, trap, untie
from arrivalmill.watches import unwatch, watch

PIDS = (("pid", ()), ("pid", (1,)))
DEEDS = ("tie", "untie", "watch", "unwatch", "end")


class Both:
    """Two processes: keeps, ways (what is on the way from each one), deeds left, whether they have ended, notices."""

    def __init__(self, keeps, ways, left, gone, untied, notices, told):
        self.keeps, self.ways, self.left, self.gone = keeps, ways, left, gone
        self.untied, self.notices, self.told = untied, notices, told

    def key(self):
        return (self.keeps, self.ways, self.left, self.gone, self.untied, self.notices, self.told)

    def next(self):
        for one in (0, 1):
            if self.left[one] and not self.gone[one]:
                yield self.did(one)
            if self.ways[1 - one]:
                yield self.came(one)

    def did(self, one):
        deed = self.left[one][0]
        left = put(self.left, one, self.left[one][1:])
        number = sum(row[0] == one for row in self.told) + 1
        reference = ("ref", PIDS[one][1], number)
        keeps, untied, told, gone, sent = self.keeps[one], self.untied, self.told, self.gone, ()
        if deed == "tie":
            keeps, sent = tie(keeps, PIDS[1 - one])
            untied = put(untied, one, False)
        elif deed == "untie":
            keeps, sent = untie(keeps, PIDS[1 - one])
            untied = put(untied, one, True)
        elif deed == "watch":
            keeps, sent = watch(keeps, reference, PIDS[1 - one], PIDS[1 - one])
            told += ((one, reference, "stands"),)
        elif deed == "unwatch":
            standing = [row for row in told if row[0] == one and row[2] == "stands"]
            if standing:
                keeps, sent = unwatch(keeps, standing[0][1])
                told = tuple((one, row[1], "taken") if row == standing[0] else row for row in told)
        else:
            sent = ended(keeps, "boom")
            gone = put(gone, one, True)
        return Both(put(self.keeps, one, keeps), self.sent(one, sent, self.ways), left, gone, untied, self.notices, told)

    def sent(self, one, sent, ways):
        for to, signal in sent:
            assert to == PIDS[1 - one], to
            ways = put(ways, one, ways[one] + (signal,))
        return ways

    def came(self, one):
        signal = self.ways[1 - one][0]
        ways = put(self.ways, 1 - one, self.ways[1 - one][1:])
        untied, notices, told = self.untied, self.notices, self.told
        if self.gone[one]:
            keeps, sent = clerk(self.keeps[one], PIDS[1 - one], signal)
            return Both(put(self.keeps, one, keeps), self.sent(one, sent, ways), self.left, self.gone, untied, notices, told)
        keeps, does = come(self.keeps[one], PIDS[1 - one], signal)
        if signal[0] == "tie" and keeps != self.keeps[one]:
            untied = put(untied, one, False)
        if signal[0] == "exit" and does is not None:
            assert not untied[one], "an exit by a tie acts behind its untying"
            assert does[0] == "letter"
        if signal[0] == "notice" and does is not None:
            notices += ((one, signal[1]),)
        return Both(put(self.keeps, one, keeps), ways, self.left, self.gone, untied, notices, told)


def put(pair, one, value):
    return (value, pair[1]) if one == 0 else (pair[0], value)


def side(keeps, other):
    return dict(keeps[2]).get(other, (False, 0, 0))


class Weavings(unittest.TestCase):
    def go_through(self, begin):
        seen = {begin.key()}
        states = [begin]
        while states:
            state = states.pop()
            if not state.ways[0] and not state.ways[1]:
                self.quiet(state)
            for other in state.next():
                if other.key() not in seen:
                    seen.add(other.key())
                    states.append(other)
        return len(seen)

    def quiet(self, state):
        one, other = state.keeps
        if not any(state.gone):
            self.assertEqual(side(one, PIDS[1])[0], side(other, PIDS[0])[0], state.key())
        for number in (0, 1):
            if not state.gone[number] and state.gone[1 - number]:
                self.assertFalse(side(state.keeps[number], PIDS[1 - number])[0], state.key())
        for watcher, reference, stands in state.told:
            many = state.notices.count((watcher, reference))
            self.assertLessEqual(many, 1)
            if stands == "stands" and state.gone[1 - watcher] and not state.gone[watcher]:
                self.assertEqual(1, many, state.key())
            if not state.gone[1 - watcher]:
                self.assertEqual(0, many)

    def begin(self, how, rows):
        parent = trap(begun(born(PIDS[0], ("pid", (9,)), "alone", None), PIDS[1], how, ("ref", (), 99)), True)
        child = trap(born(PIDS[1], PIDS[0], how, ("ref", (), 99)), True)
        return Both((parent, child), ((), ()), rows, (False, False), (False, False), (), ())

    def test_all_short_rows_of_deeds(self):
        many = 0
        for one, other in itertools.product(itertools.product(DEEDS, repeat=2), repeat=2):
            for how in ("alone", "tied"):
                many += self.go_through(self.begin(how, (one, other)))
        self.assertGreater(many, 10000)

    def test_longer_rows_of_ties(self):
        for one, other in itertools.product(itertools.product(("tie", "untie"), repeat=3), repeat=2):
            self.go_through(self.begin("tied", (one, other)))
            self.go_through(self.begin("alone", (one, (*other, "end"))))

    def test_longer_rows_of_watches(self):
        for one in itertools.product(("watch", "unwatch"), repeat=4):
            self.go_through(self.begin("alone", (one, ("watch", "end"))))
            self.go_through(self.begin("watched", (one, ("end",))))


if __name__ == "__main__":
    unittest.main()
