"""Section 18: heaps, by their words and against a heap told word for word; copying."""

import random
import unittest

from arrivalmill.copying import copied
from arrivalmill.errors import BadCell, BadNumber, BadRoom, BadTerm, BadWord, Gone, NoRoom
from arrivalmill.heaps import Heap
from arrivalmill.words import flat_words
from tests.values import NO_TERMS, term

NIL = ("list",)
ROOMS = [12, 20]
while len(ROOMS) < 24:
    ROOMS.append(ROOMS[-1] + ROOMS[-2])
PROPERTIES = ("room", "young", "marked", "elder", "free", "lessers", "greaters")


def told(heap):
    return tuple(getattr(heap, name) for name in PROPERTIES)


class Raises(unittest.TestCase):
    def raises(self, kind, value, call, *arguments):
        with self.assertRaises(kind) as caught:
            call(*arguments)
        self.assertEqual((type(value), value), (type(caught.exception.value), caught.exception.value))


class Rooms(Raises):
    def test_the_twenty_four(self):
        self.assertEqual(785672, ROOMS[-1])
        for room in ROOMS:
            heap = Heap(room)
            self.assertEqual((room, 0, 0, 0, room, 0, 0), told(heap))
        for value in (0, 11, 13, 33, 785671, 1271244, -12, True, None, "12", (12,), [12], {}):
            self.raises(BadRoom, value, Heap, value)


class Putting(Raises):
    def test_the_worked_example(self):
        heap = Heap(12)
        one = heap.put(("list", 1, 2))
        two = heap.make("tuple", (one, one))
        self.assertEqual([("cell", 2), ("cell", 3), 7, 11, None, 8, None, "elder", 0], [one, two, heap.young, heap.flat(two), heap.ask(6, (one,)), heap.free, heap.ask(9, (one,)), heap.age(one), heap.greaters])

    def test_smalls_are_words_by_themselves(self):
        heap = Heap(12)
        for one in (0, -2 ** 59, 2 ** 59 - 1, "a", "true", NIL):
            self.assertEqual(one, heap.put(one))
            self.assertEqual(("small", (), 0, 0, one), (heap.age(one), heap.parts(one), heap.flat(one), heap.shared((one, one)), heap.term(one)))
        self.assertEqual((12, 0, 0, 0, 12, 0, 0), told(heap))

    def test_cells_are_made_place_by_place(self):
        def cells(one):
            heap = Heap(932)
            word = heap.put(one)
            return word[1], [heap.parts(("cell", number)) for number in range(1, word[1] + 1)]
        self.assertEqual((3, [(), (), (("cell", 1), 5, ("cell", 2))]), cells(("tuple", ("tuple",), 5, ("pid", ()))))
        self.assertEqual((3, [("c", NIL), ("b", ("cell", 1)), ("a", ("cell", 2))]), cells(("list", "a", "b", "c")))
        self.assertEqual((4, [(), (("cell", 1), NIL), (), (("cell", 3), ("cell", 2))]), cells(("list", ("bytes",), ("map",))))
        self.assertEqual((3, [(), (), (("cell", 2), ("cell", 1))]), cells(("odd", ("pid", ()), ("ref", (), 1))))
        self.assertEqual((4, [(), (1, ("cell", 1)), (2, ("cell", 2)), (("cell", 3), 0)]), cells(("tuple", ("odd", 2, 1, 2 ** 60), 0)))
        self.assertEqual((4, [(1,), (2,), (), ("a", ("cell", 1), ("cell", 2), ("cell", 3))]), cells(("map", ("a", ("tuple", 1)), (("tuple", 2), 2 ** 59))))
        self.assertEqual((2, [(3,), (("cell", 1), 4)]), cells(("fun", "m", 0, 1, 1, (("tuple", 3), 4))))
        for leaf in (2 ** 59, -2 ** 70, ("pid", (1,)), ("ref", (1,), 2), ("bytes", 1), ("bytes",), ("fun", "m", "f", 1, 0, ()), ("fun", "m", 0, 1, 1, ()), ("tuple",), ("map",)):
            self.assertEqual((1, [()]), cells(leaf))

    def test_terms_come_back(self):
        rng = random.Random(4)
        for _ in range(300):
            one = term(rng, 4)
            heap = Heap(785672)
            word = heap.put(one)
            self.assertEqual(one, heap.term(word))
            self.assertEqual((flat_words(one),) * 3, (heap.flat(word), heap.young, heap.shared((word,))))
            self.assertEqual(785672 - flat_words(one), heap.free)

    def test_what_raises_changes_nothing(self):
        heap = Heap(12)
        heap.put(("tuple", 1, 2, 3))
        kept = told(heap)
        for value in NO_TERMS:
            self.raises(BadTerm, value, heap.put, value)
        self.raises(NoRoom, 9, heap.put, ("tuple", *range(8)))
        self.raises(NoRoom, 10, heap.put, ("list", *range(5)))
        for value in (("tuple",), ("pair", (1, 2, 3))):
            self.raises(BadCell, ("tuple", ()), heap.make, "tuple", ())
        self.assertEqual(kept, told(heap))
        self.assertEqual(("cell", 2), heap.put(("tuple", *range(7))))
        self.assertEqual(0, heap.free)
        self.assertEqual(7, heap.put(7))
        self.raises(NoRoom, 1, heap.put, ("tuple",))


class Making(Raises):
    def test_kinds(self):
        heap = Heap(84)
        one = heap.make("tuple", (1,))
        two = heap.make("pair", (one, NIL))
        three = heap.make("pair", (2, 3))
        four = heap.make("map", ((1, two), ("a", one)))
        five = heap.make("function", ("m", 3, 2, 1, (one, four)))
        self.assertEqual([("cell", number) for number in range(1, 6)], [one, two, three, four, five])
        self.assertEqual([("tuple", 1), ("list", ("tuple", 1)), ("odd", 2, 3), ("map", (1, ("list", ("tuple", 1))), ("a", ("tuple", 1))), ("fun", "m", 3, 2, 1, (("tuple", 1), ("map", (1, ("list", ("tuple", 1))), ("a", ("tuple", 1)))))],
                         [heap.term(word) for word in (one, two, three, four, five)])
        self.assertEqual([(1,), (one, NIL), (2, 3), (1, two, "a", one), (one, four)], [heap.parts(word) for word in (one, two, three, four, five)])
        self.assertEqual((2 + 2 + 2 + 5 + 4, 2 + 2 + 5 + 4, [2, 4, 2, 5 + 4 + 2, 4 + 2 + 11]), (heap.young, heap.shared((five,)), [heap.flat(word) for word in (one, two, three, four, five)]))

    def test_forms(self):
        heap = Heap(12)
        for kind, parts in (("tuple", ()), ("tuple", [1]), ("tuple", None), ("tuple", 1), ("pair", ()), ("pair", (1,)), ("pair", (1, 2, 3)), ("pair", [1, 2]), ("map", ()), ("map", (1, 2)), ("map", ((1,),)), ("map", ((1, 2, 3),)), ("map", ([1, 2],)), ("map", [(1, 2)]), ("function", ()),
                            ("function", ("m", 0, 1, 1)), ("function", ("m", 0, 1, 1, ())), ("function", ("m", 0, 1, 1, [1])), ("function", ("m", "f", 1, 1, (1,))), ("function", ("m", "f", 1, 0, (1,))), ("function", ("m", -1, 1, 1, (1,))), ("function", ("m", True, 1, 1, (1,))), ("function", ("m", 0, 10, 1, (1,))),
                            ("function", ("m", 0, -1, 1, (1,))), ("function", ("m", 0, 1, 0, (1,))), ("function", (1, 0, 1, 1, (1,))), ("function", ("m", 0, 1, 1, (1,), 1)), ("cell", (1,)), ("Tuple", (1,)), ("list", (1, 2)), (None, (1,)), (1, (1,)), (True, ()), (["tuple"], (1,)), (("tuple",), (1,)), ("leaf", ())):
            self.raises(BadCell, (kind, parts), heap.make, kind, parts)
        self.assertEqual((12, 0, 0, 0, 12, 0, 0), told(heap))

    def test_words(self):
        heap = Heap(12)
        gone = heap.put(("tuple", 1))
        heap.ask(11, ())
        for value in (True, None, 2 ** 59, "no atom", "", ("list", 1), ("tuple",), ("cell",), ("cell", 0), ("cell", 2), ("cell", -1), ("cell", True), ("cell", "1"), ("cell", 1, 1), ["cell", 1], ("Cell", 1), (("cell",), 1), [], {}, ("pid", ())):
            for call, arguments in ((heap.make, ("tuple", (1, value))), (heap.make, ("pair", (value, gone))), (heap.make, ("map", ((1, value),))), (heap.make, ("map", ((value, 1),))), (heap.make, ("function", ("m", 0, 1, 1, (value,)))), (heap.term, (value,)), (heap.age, (value,)), (heap.parts, (value,)),
                                    (heap.flat, (value,)), (heap.shared, ((1, value),)), (heap.ask, (0, (value,))), (copied, (heap, value, Heap(12)))):
                self.raises(BadWord, value, call, *arguments)
        for call, arguments in ((heap.make, ("tuple", (1, gone, True))), (heap.make, ("pair", (gone, True))), (heap.term, (gone,)), (heap.age, (gone,)), (heap.parts, (gone,)), (heap.flat, (gone,)), (heap.shared, ((gone, True),)), (heap.ask, (0, (gone,))), (copied, (heap, gone, Heap(12)))):
            self.raises(Gone, 1, call, *arguments)
        self.assertEqual(12, heap.free)

    def test_errors_in_their_sequence(self):
        heap = Heap(12)
        heap.put(("tuple", *range(9)))
        self.raises(BadCell, ("map", ((1, True), (0,))), heap.make, "map", ((1, True), (0,)))
        self.raises(BadWord, True, heap.make, "map", ((1, True), (0, 1)))
        self.raises(BadCell, ("map", ((1, 1), (0, 1))), heap.make, "map", ((1, 1), (0, 1)))
        self.raises(BadCell, ("map", ((1, 1), (1, 1))), heap.make, "map", ((1, 1), (1, 1)))
        self.raises(NoRoom, 5, heap.make, "map", ((0, 1), (1, 1)))
        self.raises(NoRoom, 3, heap.make, "tuple", (1, 2))
        self.raises(NoRoom, 4, heap.make, "function", ("m", 0, 1, 1, (1, 2)))
        self.assertEqual(("cell", 2), heap.make("pair", (1, 2)))
        self.raises(NoRoom, 2, heap.make, "pair", (1, 2))

    def test_keys_ascend_by_their_terms(self):
        heap = Heap(136)
        one, two = heap.put(("tuple", 2)), heap.put(("tuple", 1))
        self.assertEqual(("cell", 3), heap.make("map", ((two, 1), (one, 1))))
        self.raises(BadCell, ("map", ((one, 1), (two, 1))), heap.make, "map", ((one, 1), (two, 1)))
        again = heap.put(("tuple", 1))
        self.raises(BadCell, ("map", ((two, 1), (again, 1))), heap.make, "map", ((two, 1), (again, 1)))


class Sharing(Raises):
    def test_however_great(self):
        heap = Heap(785672)
        word = heap.make("tuple", (1,))
        for _ in range(200):
            word = heap.make("tuple", (word, word))
        self.assertEqual(2 + 3 * 200, heap.shared((word,)))
        self.assertEqual(2 ** 200 * 2 + 3 * (2 ** 200 - 1), heap.flat(word))
        self.raises(NoRoom, heap.flat(word), copied, heap, word, Heap(785672))

    def test_each_cell_once(self):
        heap = Heap(84)
        one = heap.put(("list", 1, 2))
        two = heap.make("pair", (one, one))
        three = heap.make("tuple", (two, one, 5))
        self.assertEqual([0, 4, 6, 10, 10], [heap.shared(words) for words in ((), (one, one), (two,), (three,), (one, three, two))])
        self.assertEqual([4, 10, 18], [heap.flat(word) for word in (one, two, three)])
        for value in (None, one[0], 5, [one], {}, True):
            self.raises(BadWord, value, heap.shared, value)
            self.raises(BadWord, value, heap.ask, 0, value)

    def test_copied(self):
        heap, other = Heap(84), Heap(20)
        one = heap.put(("list", 1, ("tuple", 2)))
        two = heap.make("tuple", (one, one))
        kept = told(heap)
        word = copied(heap, two, other)
        self.assertEqual((("cell", 7), heap.term(two), 15, 5), (word, other.term(word), other.young, other.free))
        self.assertEqual(heap.flat(two), other.shared((word,)))
        self.assertEqual(kept, told(heap))
        self.raises(NoRoom, 15, copied, heap, two, other)
        self.assertEqual(5, other.free)
        self.assertEqual(7, copied(heap, 7, other))
        self.assertEqual(("cell", 7), copied(heap, one, heap))

    def test_copied_by_random(self):
        rng = random.Random(6)
        for _ in range(100):
            one = term(rng, 3)
            heap, other, fresh = Heap(932), Heap(932), Heap(932)
            if flat_words(one) < 900:
                word = copied(heap, heap.put(one), other)
                self.assertEqual((one, fresh.put(one), told(fresh)), (other.term(word), word, told(other)))


class Clearing(Raises):
    def test_nothing_if_so_much_is_free(self):
        heap = Heap(12)
        heap.put(("tuple", *range(6)))
        self.assertIsNone(heap.ask(5, ()))
        self.assertEqual((12, 7, 0, 0, 5, 0, 0), told(heap))
        self.assertIsNone(heap.ask(6, ()))
        self.assertEqual((12, 0, 0, 0, 12, 1, 0), told(heap))

    def test_ages(self):
        heap = Heap(12)
        one = heap.put(("tuple", 1, 2))
        self.assertEqual("young", heap.age(one))
        two = heap.put(("list", 1, 2))
        heap.ask(9, (one,))
        self.assertEqual((12, 0, 3, 0, 9, 1, 0), told(heap))
        self.assertEqual("marked", heap.age(one))
        self.raises(Gone, 3, heap.age, two)
        three = heap.put(("tuple", 1))
        heap.ask(9, (one, three))
        self.assertEqual((12, 0, 2, 3, 10, 2, 0), told(heap))
        self.assertEqual(["elder", "marked"], [heap.age(word) for word in (one, three)])
        heap.ask(12, ())
        self.assertEqual((12, 0, 0, 3, 12, 3, 0), told(heap))
        self.assertEqual("elder", heap.age(one))

    def test_a_greater_one_if_it_is_not_enough(self):
        heap = Heap(12)
        one = heap.put(("tuple", *range(9)))
        heap.ask(3, (one,))
        self.assertEqual((12, 0, 0, 10, 12, 1, 1), told(heap))
        heap.ask(13, (one,))
        self.assertEqual((20, 0, 0, 10, 20, 2, 2), told(heap))
        heap.ask(785672, ())
        self.assertEqual((785672, 0, 0, 0, 785672, 3, 3), told(heap))
        self.raises(Gone, 1, heap.term, one)
        for room in ROOMS:
            heap = Heap(12)
            heap.ask(room, ())
            self.assertEqual(room, heap.room)
            if room < 785672:
                heap = Heap(12)
                heap.ask(room + 1, ())
                self.assertEqual(ROOMS[ROOMS.index(room) + 1], heap.room)

    def test_a_greater_one_if_too_much_is_elder(self):
        heap, words = Heap(12), []
        def fill():
            words.append(heap.put(("tuple", 1, 2, 3)))
            heap.ask(9, tuple(words[-3:]))
        counts = []
        for _ in range(12):
            fill()
            counts.append((heap.elder, heap.greaters))
        self.assertTrue(any(greaters for _, greaters in counts))
        self.assertEqual(counts, naive_counts())

    def test_room_never_shrinks(self):
        heap = Heap(52)
        heap.ask(53, ())
        heap.ask(85, ())
        self.assertEqual(136, heap.room)
        heap.put(("tuple", *range(130)))
        heap.ask(20, ())
        self.assertEqual(136, heap.room)

    def test_errors_in_their_sequence(self):
        heap = Heap(12)
        for value in (-1, 785673, True, None, "1", (1,), [], 10 ** 30):
            self.raises(BadNumber, value, heap.ask, value, None)
        self.raises(BadWord, None, heap.ask, 0, None)
        self.raises(BadWord, ("cell", 1), heap.ask, 5, (1, ("cell", 1)))

    def test_against_a_heap_told_word_for_word(self):
        rng = random.Random(8)
        for _ in range(120):
            heap, naive, words = Heap(rng.choice(ROOMS[:5])), None, [1, NIL, "a"]
            naive = Naive(heap.room)
            for _ in range(60):
                deed = rng.random()
                if deed < 0.5:
                    kind = rng.choice(("tuple", "pair", "map", "function"))
                    parts = [rng.choice(words) for _ in range(2 if kind == "pair" else rng.randint(1, 3))]
                    made = tuple(parts) if kind in ("tuple", "pair") else (("k", parts[0]),) if kind == "map" else ("m", 0, 1, 1, tuple(parts))
                    inner = ("k", parts[0]) if kind == "map" else tuple(parts)
                    weight = {"tuple": len(parts) + 1, "pair": 2, "map": 3, "function": len(parts) + 2}[kind]
                    outcomes = [naive.make(inner, weight), attempt(heap.make, kind, made)]
                elif deed < 0.65:
                    one = term(rng, 2)
                    weight = flat_words(one)
                    outcome = attempt(heap.put, one)
                    outcomes = [outcome, outcome]
                    if isinstance(outcome, tuple) and outcome[:1] == ("cell",):
                        for number in range(naive.count + 1, outcome[1] + 1):
                            cell = heap.cells[number]
                            naive.make(cell.inner, cell.weight)
                    elif outcome == ("NoRoom", weight):
                        self.assertGreater(weight, naive.free())
                else:
                    roots = tuple(rng.choice(words) for _ in range(rng.randint(0, 3)))
                    asked = rng.choice((0, 1, 3, 8, 12, 13, 20, 30))
                    outcomes = [naive.ask(asked, roots), attempt(heap.ask, asked, roots)]
                    words = [1, NIL, "a", *(root for root in roots if not isinstance(root, tuple) or root == NIL or root[1] in naive.cells)]
                self.assertEqual(outcomes[0], outcomes[1])
                if isinstance(outcomes[1], tuple) and outcomes[1][:1] == ("cell",):
                    words.append(outcomes[1])
                self.assertEqual(naive.told(), told(heap))
                self.assertEqual(sorted(naive.cells), sorted(number for number in range(1, naive.count + 1) if attempt(heap.age, ("cell", number)) in ("young", "marked", "elder")))
                for number in naive.cells:
                    self.assertEqual(naive.ages[number], heap.age(("cell", number)))


def attempt(call, *arguments):
    try:
        return call(*arguments)
    except (NoRoom, Gone, BadWord, BadCell) as error:
        return (type(error).__name__, error.value)


class Naive:
    """A heap of cells (parts, weight), by the words of section 18."""

    def __init__(self, room):
        self.room, self.cells, self.ages, self.count, self.lessers, self.greaters, self.kept = room, {}, {}, 0, 0, 0, 0

    def sum(self, age):
        return sum(weight for number, (_, weight) in self.cells.items() if self.ages[number] == age)

    def free(self):
        return self.room - self.sum("young") - self.sum("marked")

    def told(self):
        return (self.room, self.sum("young"), self.sum("marked"), self.sum("elder"), self.free(), self.lessers, self.greaters)

    def make(self, inner, weight):
        for word in inner:
            if isinstance(word, tuple) and word != NIL and word[1] not in self.cells:
                return ("Gone", word[1])
        if weight > self.free():
            return ("NoRoom", weight)
        self.count += 1
        self.cells[self.count], self.ages[self.count] = (inner, weight), "young"
        return ("cell", self.count)

    def reached(self, roots):
        found = set()
        def go(word):
            if isinstance(word, tuple) and word != NIL and word[1] not in found:
                found.add(word[1])
                for part in self.cells[word[1]][0]:
                    go(part)
        for root in roots:
            go(root)
        return found

    def ask(self, words, roots):
        for word in roots:
            if isinstance(word, tuple) and word != NIL and word[1] not in self.cells:
                return ("Gone", word[1])
        if self.free() >= words:
            return None
        found = self.reached(roots)
        self.lessers += 1
        for number in list(self.cells):
            if self.ages[number] != "elder":
                if number not in found:
                    del self.cells[number]
                else:
                    self.ages[number] = {"young": "marked", "marked": "elder"}[self.ages[number]]
        if self.free() < words or (self.sum("elder") > self.room and self.sum("elder") > 2 * self.kept):
            self.greaters += 1
            for number in list(self.cells):
                if number not in found:
                    del self.cells[number]
                else:
                    self.ages[number] = "elder"
            self.kept = self.sum("elder")
            self.room = [room for room in ROOMS if room >= words and room >= self.room][0]
        return None


def naive_counts():
    """What test_a_greater_one_if_too_much_is_elder counts, on the heap told word for word."""
    heap, words, counts = Naive(12), [], []
    for _ in range(12):
        words.append(heap.make((1, 2, 3), 4))
        heap.ask(9, tuple(words[-3:]))
        counts.append((heap.sum("elder"), heap.greaters))
    return counts


if __name__ == "__main__":
    unittest.main()
