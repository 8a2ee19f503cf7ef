"""Section 16: code that is looked through before it runs."""

import random
import unittest

from arrivalmill.checked import best_table, checked, note_behind, shows_checked
from arrivalmill.errors import Astray, BadCode, BadNumber, BadWay, Unsure
from arrivalmill.lifting import code_of
from arrivalmill.machine import coded_alone
from arrivalmill.rows import Code
from tests import looking
from tests.programs import drawn_module
from tests.test_rows import SWAP

CONSTANTS = ("a", "{a,b}", "[1]")


def code(*rows, many=1, entries=()):
    lines = [f"const {at} {text}" for at, text in enumerate(CONSTANTS)]
    return Code("\n".join(("code m", *lines, f"entry f {many} 0", *entries, *rows)))


def drawn_codes(seed, many):
    rng = random.Random(seed)
    found = []
    while len(found) < many:
        try:
            found.append(looking.drawn(rng))
        except BadCode:
            pass
    return rng, found


class Rows(unittest.TestCase):
    """What each kind of row wants and makes, by the last note of a way."""

    def check(self, rows, wanted, many=1):
        """wanted is the number of the first row on the way whose wants are not met, None for fine code."""
        told = code(*rows, many=many)
        found = checked(told)
        self.assertTrue(shows_checked(told, found), rows)
        if wanted is None:
            self.assertEqual("fine", found[0], (rows, found))
        else:
            self.assertEqual("wrong", found[0], rows)
            self.assertEqual(wanted, found[1][-1], rows)

    def test_reads_want_set_registers(self):
        end = ("label 1", "fail if_clause")
        for row in ("move x1 x0", "test atom 1 x1", "size 1 x1 2", "takes 1 x1 0", "same 1 x0 x1", "less 1 x1 x0", "pick 1 x1 c0 1", "key 1 x1 x0 x0", "key 1 x0 x1 x0", "do hd x0 x1", "do + x0 x0 x1", "guard hd 1 x0 x1", "fun 0 0 0 x0 x1", "call 0 2", "outer 0", "apply 1", "spread", "outspread",
                    "last 0 2", "outlast 0", "applast 1", "spreadlast", "raise x0 x1", "fail badmatch x1", "move y0 x0", "wait 1 x1"):
            self.check(("label 0", row, "fail if_clause", *end), 1, many=1)
        self.check(("label 0", "return"), 1, many=0)
        self.check(("label 0", "apply 0", "return"), 1, many=0)
        self.check(("label 0", "frame 2", "clear y0", "move y0 x0", "move y1 x0"), 4)

    def test_slots_that_are_set_stand_in_the_frame(self):
        for rows, wanted in ((("move x0 y0",), 1), (("clear y0",), 1), (("try y0 1",), 1), (("frame 1", "move x0 y1"), 2), (("frame 1", "clear y0 y1"), 2), (("frame 1", "clear y0", "try y1 1"), 3), (("frame 1", "clear y0", "try y0 1", "move x0 y0"), 4),
                             (("frame 1", "clear y0", "try y0 1", "clear y0"), 4), (("frame 1", "clear y0", "try y0 1", "try y0 1"), 4), (("frame 1", "move x0 y0", "do self y0", "guard self 2 y0", "tuple y0"), 5)):
            self.check(("label 0", *rows, "fail if_clause", "label 1", "fail if_clause", "label 2", "fail if_clause"), wanted)

    def test_parts_want_known_kinds(self):
        for rows, wanted in ((("part x0 0 x1",), 1), (("head x0 x1",), 1), (("tail x0 x1",), 1), (("test cell 1 x0", "head x0 x1", "tail x0 x0", "tail x0 x0"), 4), (("test cell 1 x0", "move x0 x1", "head x1 x1", "head x1 x1"), 4),
                             (("size 1 x0 2", "part x0 1 x1", "part x0 2 x1"), 3), (("part c1 1 x0", "head c2 x0", "part c1 2 x0"), 3), (("head c1 x0",), 1), (("part c2 0 x0",), 1), (("head c0 x0",), 1), (("move c1 x1", "part x1 1 x1", "part x1 0 x1"), 3),
                             (("room 5 1", "tuple x1 x0 x0 x0", "part x1 2 x2", "size 1 x1 1", "part x1 1 x2"), 5), (("room 2 1", "cell x0 x0 x1", "head x1 x0", "part x1 0 x0"), 4), (("test tuple 1 x0", "part x0 0 x0"), 2), (("size 1 x0 2", "test cell 1 x0", "part x0 0 x1"), 3),
                             (("size 1 x0 2", "do self x0", "part x0 0 x1"), 3), (("test cell 1 x0", "call 0 1", "head x0 x0"), 3), (("test cell 2 x0", "jump 1", "label 2", "head x0 x0"), 4)):
            self.check(("label 0", *rows, "fail if_clause", "label 1", "fail if_clause", *(() if "label 2" in rows else ("label 2", "fail if_clause"))), wanted)

    def test_frames(self):
        last = ("label 1", "fail if_clause")
        for row in ("last 0 1", "outlast 0", "applast 0", "spreadlast", "outspreadlast", "return", "frame 1"):
            self.check(("label 0", "frame 0", "move c0 x0", "move c0 x1", "move c0 x2", row, "fail if_clause", *last), 5)
        self.check(("label 0", "unframe", "return"), 1)
        self.check(("label 0", "frame 1", "clear y0", "try y0 1", "unframe", "return", *last), 4)
        self.check(("label 0", "frame 1", "clear y0", "try y0 1", "untry y0", "unframe", "return", *last), None)
        self.check(("label 0", "frame 0", "unframe", "frame 1", "clear y0", "unframe", "return"), None)

    def test_full_slots(self):
        for row in ("call 0 1", "outer 0", "apply 0", "spread", "outspread", "do self x0", "guard self 1 x0", "fun 0 1 0 x0", "own x0 f 1", "room 0 0", "look 1"):
            rows = ("label 0", "frame 2", "clear y1", "move c0 x0", "move c0 x1", "move c0 x2", row, "fail if_clause", "label 1", "fail if_clause")
            self.check(rows, 6)
        self.check(("label 0", "frame 2", "clear y0 y1", "try y1 1", "do self y0", "untry y1", "do self y0", "fail if_clause", "label 1", "fail if_clause"), 6)

    def test_room(self):
        for rows, wanted in ((("cell x0 x0 x1",), 1), (("tuple x0",), 1), (("room 4 1", "cell x0 x0 x1", "cell x0 x0 x1", "tuple x1"), 4), (("room 3 1", "tuple x1 x0 x0", "tuple x1"), 3), (("room 9 2", "return"), 1), (("room 9 1", "do self x1", "cell x0 x0 x0"), 3),
                             (("room 9 1", "guard self 1 x1", "cell x0 x0 x0"), 3), (("room 9 1", "fun 0 0 0 x1 x0", "cell x0 x0 x0"), 3), (("room 9 1", "own x1 f 1", "tuple x0"), 3), (("room 9 1", "call 0 1", "tuple x0"), 3), (("room 9 1", "frame 1", "clear y0", "unframe", "tuple x1 x0", "move x1 x0", "return"), None),
                             (("room 9 1", "move c0 x1", "room 2 1", "move x1 x0"), 4), (("room 2 0", "room 3 1", "tuple x0 x0 x0", "return"), 2)):
            self.check(("label 0", *rows, "fail if_clause", "label 1", "fail if_clause"), wanted)

    def test_letters(self):
        receive = ("label 3", "look 4", "test atom 5 x0", "take", "return", "label 5", "pass 3", "label 4", "wait 3")
        self.check(("label 0", *receive), None)
        self.check(("label 0", *receive[:-1], "wait 3 c0", "move c0 x0", "return"), None)
        for rows, wanted in ((("take",), 1), (("pass 0",), 1), (("look 0",), 1), (("wait 0",), 1), (("wait 0 c0", "fail if_clause"), 1)):
            self.check(("label 0", *rows, "fail if_clause"), wanted)
        for row in ("return", "last 0 1", "call 0 1", "do link x0 x0", "do ! x0 x0 x0", "look 4", "outer 0", "spread"):
            self.check(("label 0", "look 4", "move c0 x1", row, "fail if_clause", "label 4", "wait 0"), 3)
        for row in ("do self x1", "guard self 6 x1", "room 0 0", "move c0 x1", "fun 0 6 0 x1", "own x0 f 1"):
            self.check(("label 0", "look 4", row, "take", "fail if_clause", "label 4", "wait 0", "label 6", "fail if_clause"), None)
        self.check(("label 0", "label 7", "look 4", "pass 7", "label 4", "label 8", "wait 7"), None)
        self.check(("label 0", "look 4", "take", "take", "fail if_clause", "label 4", "wait 0"), 3)
        self.check(("label 0", "look 4", "take", "pass 0", "fail if_clause", "label 4", "wait 0"), 3)
        self.check(("label 0", "look 4", "pass 7", "label 4", "wait 0", "label 7", "look 8", "take", "return", "label 8", "wait 7"), 2)
        self.check(("label 0", "look 4", "pass 0", "label 4", "wait 7", "label 7", "look 8", "take", "return", "label 8", "wait 7"), 1)
        self.check(("label 0", "look 4", "pass 0", "label 4", "jump 5", "label 5", "wait 0"), 1)

    def test_tries(self):
        self.check(("label 0", "frame 1", "clear y0", "untry y0", "fail if_clause"), 3)
        self.check(("label 0", "frame 2", "clear y0 y1", "try y0 1", "try y1 2", "untry y0", "fail if_clause", "label 1", "fail if_clause", "label 2", "fail if_clause"), 5)
        self.check(("label 0", "frame 1", "clear y0", "try y0 1", "do hd x1 x0", "fail if_clause", "label 1", "move x1 x0", "raise x0 x1"), None)
        self.check(("label 0", "frame 1", "clear y0", "try y0 1", "move c0 x2", "do hd x1 x0", "fail if_clause", "label 1", "move x2 x0", "raise x0 x1"), 8)
        self.check(("label 0", "frame 1", "clear y0", "try y0 1", "do hd x1 x0", "fail if_clause", "label 1", "do self x0", "fail if_clause"), 7)

    def test_a_row_stands_where_it_goes_on(self):
        for row in ("move x0 x0", "label 1", "do self x0", "test atom 0 x0", "call 0 1", "frame 1"):
            told = code("label 0", row)
            self.assertEqual(("wrong", (0, 1)), checked(told))
        for row in ("return", "jump 0", "pick 0 x0 c0 0", "last 0 1", "fail if_clause", "raise x0 x0"):
            self.assertEqual("fine", checked(code("label 0", row))[0])

    def test_beginnings(self):
        self.check(("label 0", "call 1 2", "return", "label 1", "move x1 x0", "return"), 1)
        told = code("label 0", "fun 0 1 1 x0 x0", "return", "label 1", "move x1 x0", "return")
        self.assertEqual([((0,), None, (), (), (), None, 0), ((0, 1), None, (), (), (), None, 0)], [note_behind(told, many, (row,)) for row, many in ((0, 1), (3, 2))])
        self.assertEqual("fine", checked(told)[0])
        two = code("label 0", "move x0 x1", "move x1 x0", "return", entries=("entry g 2 0",))
        self.assertEqual([(0,), (0, 1)], [note_behind(two, many, (0,))[0] for many in (1, 2)])
        self.assertEqual((0,), checked(two)[1][0][0])


class Meets(unittest.TestCase):
    def meets(self, *rows):
        told = code(*rows)
        found = checked(told)
        self.assertEqual("meets", found[0], rows)
        self.assertTrue(shows_checked(told, found))
        self.assertEqual(found[1][-1], found[2][-1])
        self.assertRaises(Unsure, best_table, told)
        return found

    def test_unlike_frames_tries_and_hands(self):
        self.meets("label 0", "test atom 1 x0", "frame 1", "label 1", "fail if_clause")
        self.meets("label 0", "frame 1", "clear y0", "test atom 1 x0", "try y0 2", "label 1", "fail if_clause", "label 2", "fail if_clause")
        self.meets("label 0", "look 1", "test atom 1 x0", "take", "return", "label 1", "wait 0")
        self.meets("label 0", "frame 1", "label 1", "unframe", "test atom 1 x0", "return")

    def test_a_row_that_comes_next_twice(self):
        found = self.meets("label 0", "look 1", "label 1", "wait 0")
        self.assertEqual(((0, 1, 2), (0, 1, 2)), found[1:])
        found = self.meets("label 0", "frame 1", "clear y0", "try y0 1", "do hd x0 x0", "label 1", "fail if_clause")
        self.assertEqual(found[1], found[2])
        told = code("label 0", "guard hd 1 x1 x0", "label 1", "return")
        self.assertEqual((0,), checked(told)[1][2][0])

    def test_a_beginning_within_another_function(self):
        self.meets("label 0", "frame 1", "clear y0", "label 1", "call 1 0", "fail if_clause")


class Tables(unittest.TestCase):
    def test_the_worked_example(self):
        told = Code(SWAP)
        self.assertEqual("fine", checked(told)[0])
        self.assertEqual(((0, 1, 2), None, (), (("x0", ("tuple", 2)),), (), None, 3), best_table(told)[5])

    def test_what_is_told_of_drawn_code_holds(self):
        rng, codes = drawn_codes(5, 250)
        kinds = {"fine": 0, "wrong": 0, "meets": 0}
        for told in codes:
            found = checked(told)
            kinds[found[0]] += 1
            self.assertTrue(shows_checked(told, found), told.text)
            self.along_ways(rng, told, found)
            if found[0] == "fine":
                self.assertEqual(found[1], best_table(told))
                self.other_tables(rng, told, found[1])
            else:
                with self.assertRaises(Unsure) as caught:
                    best_table(told)
                self.assertEqual(found, caught.exception.value)
        self.assertGreater(min(kinds.values()), 15)

    def along_ways(self, rng, told, found):
        """Compares notes along ways with those that are made word for word."""
        for _ in range(6):
            row, many = rng.choice(looking.begin(told))
            way, note = (row,), looking.first(many)
            while len(way) < 30:
                self.assertEqual(looking.shown(note), note_behind(told, many, way), told.text)
                is_met = looking.met(told, way[-1], note)
                self.assertEqual(not is_met, shows_checked(told, ("wrong", way)), (told.text, way))
                if found[0] == "fine":
                    self.assertTrue(is_met)
                    best = found[1][way[-1]]
                    self.assertLessEqual(set(best[0]), note["set"])
                    self.assertLessEqual(set(best[2]), note["full"])
                    self.assertEqual((note["frame"], note["tries"], note["hand"]), (best[1], best[4], best[5]))
                nexts = looking.makes(told, way[-1], note) if is_met else []
                if not nexts:
                    break
                row = rng.choice(nexts)[0]
                notes = [made for behind, made in nexts if behind == row]
                if len({(made["frame"], made["tries"], made["hand"]) for made in notes}) > 1:
                    break
                way, note = (*way, row), looking.both(notes)

    def other_tables(self, rng, told, table):
        """Tables that tell less hold, if nothing wants it; those that tell more, or otherwise, do not."""
        number = rng.choice([at for at, note in enumerate(table) if note is not None])
        note = table[number]
        new = [at for at in range(12) if at not in note[0]][0]
        for other in ((tuple(sorted((*note[0], new))), *note[1:]), (*note[:6], note[6] + 1), (note[0], (note[1] or 0) + 1, *note[2:]), (*note[:5], 0 if note[5] is None else None, note[6]), (*note[:4], ((0, 0), *note[4]), *note[5:]), None, list(note), note[:6], (*note, 0)):
            self.assertFalse(shows_checked(told, ("fine", (*table[:number], other, *table[number + 1:]))), (told.text, number, other))
        for number in range(len(table)):
            if table[number] is None:
                for other in (((), None, (), (), (), None, 0), ((True,), None, (), (), (), None, 0)):
                    changed = (*table[:number], other, *table[number + 1:])
                    is_held = other[0] == () and holds(told, changed)
                    self.assertEqual(is_held, shows_checked(told, ("fine", changed)), (told.text, number))

    def test_less_may_be_told_of_what_nobody_wants(self):
        told = code("label 0", "move x0 x1", "move x0 x2", "size 1 x1 2", "return", "label 1", "fail if_clause")
        best = best_table(told)
        self.assertEqual((0, 1, 2), best[3][0])
        less = (*best[:3], ((0, 1), *best[3][1:]), ((0,), None, (), (), (), None, 0), ((), *best[5][1:]), ((), *best[6][1:]))
        self.assertTrue(shows_checked(told, ("fine", less)))
        self.assertFalse(shows_checked(told, ("fine", (*less[:3], ((0,), *best[3][1:]), *less[4:]))))
        self.assertFalse(shows_checked(told, ("fine", (*less[:4], ((), None, (), (), (), None, 0), *less[5:]))))
        self.assertFalse(shows_checked(told, ("fine", (*less[:4], ((0, 1, 2), None, (), (), (), None, 0), *less[5:]))))

    def test_kinds_may_be_told_less(self):
        told = code("label 0", "room 4 1", "tuple x1 x0 x0 x0", "part x1 1 x0", "return")
        best = best_table(told)
        self.assertEqual((("x1", ("tuple", 3)),), best[3][3])
        for kind, wanted in ((("tuple", 3), True), (("tuple", 2), True), (("tuple", 1), False), (("tuple", 4), False), ("cell", False), (("tuple", True), False), (["tuple", 2], False), (("tuple", 2, 2), False), (None, False), ("tuple", False)):
            for register in ("x1", "x01", "x2", "y1", 1, None, "x1 "):
                changed = (*best[:3], (*best[3][:3], ((register, kind),), *best[3][4:]), *best[4:])
                changed = (*changed[:4], (*best[4][:3], (), *best[4][4:]))
                self.assertEqual(wanted and register == "x1", shows_checked(told, ("fine", changed)), (kind, register))

    def test_values_of_any_kind(self):
        told = Code(SWAP)
        fine, table = checked(told)
        wrong = code("label 0", "move x1 x0", "return")
        for value in (None, True, 1, "fine", (), ("fine",), [fine, table], (fine, list(table)), (fine, table, ()), (fine, table[1:]), (fine, (*table, None)), ("fine", None), ("wrong",), ("wrong", ()), ("wrong", None), ("wrong", (0, 1, 2)), ("wrong", (True,)), ("wrong", [0]),
                      ("meets", (0,)), ("meets", (0,), (0,)), ("meets", (), ()), ("meets", (0, 1), (0, 1)), ("meets", (0, 1), (0, 7)), ("Fine", table), (("fine",), table), {"fine": table}, ("fine", tuple(None for _ in table)), ("wrong", (7,)), ("wrong", (0, 5))):
            self.assertFalse(shows_checked(told, value), value)
        self.assertEqual(("wrong", (0, 1)), checked(wrong))
        for value in (("wrong", (0,)), ("wrong", (1,)), ("wrong", (0, 1, 2)), ("wrong", (False, 1)), ("wrong", (0, True)), ("wrong", [0, 1]), ("wrong", (0, 1), ()), ("wrong", (0, 2))):
            self.assertFalse(shows_checked(wrong, value), value)
        self.assertTrue(shows_checked(wrong, ("wrong", (0, 1))))

    def test_notes_of_rows_to_which_no_way_leads(self):
        told = code("label 0", "return", "label 1", "return")
        table = best_table(told)
        self.assertEqual((None, None), table[2:])
        note, empty = ((0,), None, (), (), (), None, 0), ((), None, (), (), (), None, 0)
        for rows, wanted in (((note, note), True), ((None, note), True), ((note, None), False), ((empty, note), False), ((note, empty), False), ((None, ((0,), 1, (0,), (), (), None, 0)), False), ((None, ((0, 3), None, (), (("x0", "cell"), ("x3", ("tuple", 0))), (), None, 7)), True)):
            self.assertEqual(wanted, shows_checked(told, ("fine", (*table[:2], *rows))), rows)
        for note in (((0, 0), None, (), (), (), None, 0), ((-1, 0), None, (), (), (), None, 0), ((0,), None, (0,), (), (), None, 0), ((0,), None, (), (("x1", "cell"),), (), None, 0), ((0, 1), None, (), (("x1", "cell"), ("x0", "cell")), (), None, 0), ((0,), None, (), (), ((0, 1),), None, 0),
                     ((0,), None, (), (), (), None, -1), ((0,), None, (), (), (), 1, 0), ((0,), None, (), (), (), None, True), ((0,), None, (), (), None, None, 0), ((1000,), None, (), (), (), None, 0), ([0], None, (), (), (), None, 0), ((0,), None, (), (("x0", "Cell"),), (), None, 0)):
            self.assertFalse(shows_checked(told, ("fine", (*table[:2], None, note))), note)


def holds(told, table):
    """Whether a table holds of which all notes but that of one row are the best ones."""
    for number, note in enumerate(table):
        if note is None:
            continue
        named = {"set": set(note[0]), "frame": note[1], "full": set(note[2]), "kinds": dict(note[3]), "tries": note[4], "hand": note[5], "room": note[6]}
        if not looking.met(told, number, named):
            return False
        for behind, made in looking.makes(told, number, named):
            other = table[behind]
            if other is None or not set(other[0]) <= made["set"] or not set(other[2]) <= made["full"] or other[6] > made["room"]:
                return False
            if (other[1], other[4], other[5]) != (made["frame"], made["tries"], made["hand"]):
                return False
            for one, kind in other[3]:
                known = made["kinds"].get(one)
                if known != kind and not (isinstance(known, tuple) and isinstance(kind, tuple) and kind[1] <= known[1]):
                    return False
    return True


class NotesBehind(unittest.TestCase):
    def test_errors_in_their_sequence(self):
        told = Code(SWAP)
        for value in (-1, 33, True, None, "1", (1,), [], 10 ** 20):
            with self.assertRaises(BadNumber) as caught:
                note_behind(told, value, None)
            self.assertIs(value, caught.exception.value)
        for value in (None, (), [0], (True,), (1,), (0, 2), (0, 1, 3), (0, 1, True), 0, "0", ((0,),), (0, 99), {}):
            with self.assertRaises(BadWay) as caught:
                note_behind(told, 1, value)
            self.assertIs(value, caught.exception.value)
        self.assertRaises(BadWay, note_behind, told, 2, (0,))
        wrong = code("label 0", "move x1 x0", "return")
        self.assertEqual(((0,), None, (), (), (), None, 0), note_behind(wrong, 1, (0, 1)))
        self.assertRaises(BadWay, note_behind, wrong, 1, (0, 1, 2))

    def test_along_a_ring(self):
        told = code("label 0", "test atom 0 x0", "move x0 x1", "jump 0")
        self.assertEqual((0, 1), note_behind(told, 1, (0, 1, 2, 3, 0, 1, 0))[0])
        self.assertEqual(((0,), None, (), (), (), None, 0), best_table(told)[0])

    def test_thirty_two_arguments(self):
        told = code("label 0", "return", many=32)
        self.assertEqual(tuple(range(32)), note_behind(told, 32, (0,))[0])
        self.assertRaises(BadWay, note_behind, told, 31, (0,))


class Runs(unittest.TestCase):
    """If a table holds no run reads what is not set, or takes a part of what has none."""

    def test_fine_code_does_not_go_astray(self):
        rng, codes = drawn_codes(9, 500)
        ended = 0
        for told in codes:
            if checked(told)[0] != "fine" or has_ring(told):
                continue
            exporting = Code(told.text.replace("\nlabel 0", "\nexport f 1\nlabel 0", 1))
            for value in (1, ("list", 1), ("tuple", "a", ("list", 2))):
                for number in range(4):
                    signals = tuple(((1,), ("letter", rng.choice(("a", 1, ("list", 1)))), 0) for _ in range(number))
                    try:
                        _, end = coded_alone((exporting,), (), ("m", "f", (value,)), signals, (1,))
                        ended += end[0] == "ended"
                    except Astray as error:
                        self.assertIn(told.rows[error.value[1]][0], ("raise", "wait"), told.text)
        self.assertGreater(ended, 100)

    def test_made_code_is_fine(self):
        rng = random.Random(11)
        for _ in range(25):
            told = code_of(drawn_module(rng))
            found = checked(told)
            self.assertEqual("fine", found[0])
            self.assertTrue(shows_checked(told, found))

    def test_slips_in_made_code_are_seen(self):
        rng = random.Random(13)
        told = {"fine": 0, "wrong": 0, "meets": 0}
        for _ in range(8):
            text = code_of(drawn_module(rng, 2)).text
            for _ in range(25):
                lines = text.split("\n")
                at = rng.randrange([number for number, line in enumerate(lines) if line.startswith("label")][0], len(lines) - 1)
                way = rng.randint(0, 3)
                if way == 0:
                    del lines[at]
                elif way == 1:
                    lines[at], lines[at + 1] = lines[at + 1], lines[at]
                else:
                    words = lines[at].split(" ")
                    spots = [number for number, word in enumerate(words) if number and word[0] in "xyc" and word[1:].isdigit()]
                    if spots:
                        spot = rng.choice(spots)
                        words[spot] = rng.choice(("x0", "x1", "y0", "y1", "y2", "y99"))
                    lines[at] = " ".join(words)
                try:
                    code_made = Code("\n".join(lines))
                except BadCode:
                    continue
                found = checked(code_made)
                told[found[0]] += 1
                self.assertTrue(shows_checked(code_made, found), code_made.text)
        self.assertGreater(told["wrong"], 20)
        self.assertGreater(told["fine"], 20)


def has_ring(told):
    """Whether rows may go on for ever: back over other ways than passed letters, or by calls of oneself."""
    at = looking.places(told)
    for number, row in enumerate(told.rows):
        labels = [part for part in row[1:] if isinstance(part, int) and row[0] in ("jump", "test", "size", "same", "pick", "key", "guard")]
        if row[0] == "call" or any(at.get(label, 0) <= number for label in labels):
            return True
    return False


if __name__ == "__main__":
    unittest.main()
