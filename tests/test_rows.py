"""Section 15: texts of code, where rows go on, what is alive and made along them."""

import random
import unittest

from arrivalmill.errors import BadCode, NoRoom, NoRow, Tangled
from arrivalmill.flows import handler_of, open_tries
from arrivalmill.lifting import code_of
from arrivalmill.reading import Module
from arrivalmill.rows import Code, live, ways, words_wanted
from tests.programs import drawn_module

HEAD = ("code m", "const 0 1", "const 1 {a,[]}", "entry f 1 0", "entry 'end' 2 3", "export f 1")
SWAP = "code m\nentry swap 1 0\nexport swap 1\nlabel 0\nsize 1 x0 2\npart x0 0 x1\npart x0 1 x2\nroom 3 3\ntuple x0 x2 x1\nreturn\nlabel 1\nfail function_clause"
ALL_ROWS = """jump 1
move c1 y999
test boolean 1 x0
size 1 x999 999
takes 1 y0 0
same 1 x0 c0
unlike 1 x0 y1
less 1 c0 c1
atmost 1 x0 x0
pick 1 x0 c0 0
pick 1 x0 c0 0 c1 3
part x0 12 y3
head x0 x1
tail x0 x0
key 1 x0 c0 x1
room 0 0
room 999 999
cell x0 c0 y0
tuple x0
tuple x0 c0 c0 x1
do self x0
do make_ref y1
do + x0 x1 c0
do - x0 x1
do not x0 x1
do ! x0 x1 c0
do exit x0 x1
do exit x0 x1 x2
do spawn x0 x1
do spawn x0 x1 x2 x3
do map x0
do map x0 c0 c1
do may x0 x1
do may x0 x1 c0 c1
do must y0 y0 c0 c1 c0 c1
guard self 1 x0
guard map 1 x0 c0 c0
guard div 1 x0 c0 c0
guard exit 1 x0 c0
fun 0 1 0 x0
fun 999 1 9 y0 c0 x1 y2
own x0 'end' 2
own y1 f 1
frame 0
unframe
clear
clear y0 y999
call 1 0
outer 0
apply 999
spread
outspread
last 1 2
outlast 1
applast 0
spreadlast
outspreadlast
return
try y0 1
untry y0
raise x0 c0
fail function_clause
fail if_clause
fail timeout_value
fail badmatch x0
fail case_clause c0
fail try_clause y0
fail badarg x0
fail bad_filter x0
fail bad_generator x0
look 1
take
pass 1
wait 1
wait 1 c0"""
# What has the form of no row, or names what is not there.
NO_ROWS = """x

label
label 01
label 1000000
label -1
label a
label 4 4
 label 4
label  4
label 4 
jump
jump 9
jump x0
move x0
move x0 c0
move x0 z1
move x1000 x0
move x00 x0
move x x0
move c2 x0
move X0 x0
test list 1 x0
test 1 atom x0
test atom 1
test atom 1 x0 x1
size 1 x0 1000
size 1 x0 -1
size x0 1 1
same 1 x0
same 1 x0 x1 x2
equal 1 x0 x0
pick 1 x0
pick 1 x0 c0
pick 1 x0 x1 1
pick 1 x0 c0 1 c1
pick 1 x0 c2 1
pick 1 x0 c0 9
part x0 x1 x2
part x0 0 c0
head x0
key 1 x0 x1
room 1
room 1000 0
room 0 1000
room a 0
cell x0 x1
tuple
tuple c0
do self
do self x0 x1
do + x0
do + x0 x1 x2 x3
do not x0 x1 x2
do andalso x0 x1 x2
do orelse x0 x1 x2
do apply x0 x1 x2
do apply x0 x1 x2 x3
do foo x0 x1
do map x0 x1
do may x0
do may x0 x1 x2
do must x0 x1 x2
do spawn x0 x1 x2
do ! x0 x1
do hd c0 x0
do 'div' x0 x1 x2
do
guard self x0
guard ! 1 x0 x1 x2
guard exit 1 x0 x1 x2
guard monotonic_time 1 x0
guard link 1 x0 x1
guard spawn 1 x0 x1
guard hd 9 x0 x1
fun 1000 1 0 x0
fun 0 1 10 x0
fun 0 1 0
fun 0 9 0 x0
own x0 f 2
own x0 g 1
own x0 end 2
own x0 'f' 1
own f x0 1
own x0 f 10
frame
frame y0
frame 1000
unframe 1
clear x0
clear y0 c0
call 1
call 9 0
outer
outer 1 1
spread 1
return x0
try x0 1
try y0
try y0 9
untry
untry 1
untry x0
raise x0
raise x0 x1 x2
fail
fail badarg
fail badmatch
fail function_clause x0
fail boom
fail boom x0
look
look 9
take 1
pass
wait
wait c0 1
wait 1 c0 c0
const 2 a
entry g 1 1
export f 1
code m
end"""


class Texts(unittest.TestCase):
    def wrong(self, line, text):
        with self.assertRaises(BadCode) as caught:
            Code(text)
        self.assertEqual(line, caught.exception.value, text)
        self.assertNotIsInstance(caught.exception.value, bool)

    def test_properties(self):
        code = Code("\n".join((*HEAD, "label 0", "fun 3 3 2 y0 c1 x2", "own x0 'end' 2", "pick 3 x0 c0 0", "label 3", "do ! x0 x1 c1", "clear y0 y12", "fail badmatch x0")))
        self.assertEqual("m", code.name)
        self.assertEqual((1, ("tuple", "a", ("list",))), code.constants)
        self.assertEqual((("f", 1, 0), ("end", 2, 3)), code.entries)
        self.assertEqual((("f", 1),), code.exports)
        self.assertEqual((("label", 0), ("fun", 3, 3, 2, "y0", "c1", "x2"), ("own", "x0", "'end'", 2), ("pick", 3, "x0", "c0", 0), ("label", 3), ("do", "!", "x0", "x1", "c1"), ("clear", "y0", "y12"), ("fail", "badmatch", "x0")), code.rows)
        self.assertEqual(8, len(code))
        self.assertTrue(code.text.startswith("code m\nconst 0 1\n"))
        self.assertEqual(code, Code(code.text))
        self.assertNotEqual(code, Code(code.text.replace("y12", "y13")))
        self.assertNotEqual(code, code.text)
        self.assertNotEqual(code, None)

    def test_names_and_terms_are_read(self):
        code = Code("code 'Big'\nconst 0 fun m:f/1\nconst 1 'A@b'\nconst 2 [1|2]\nentry 'X' 12 999999\nlabel 999999\nreturn")
        self.assertEqual(("Big", (("fun", "m", "f", 1, 0, ()), "A@b", ("odd", 1, 2)), (("X", 12, 999999),), ()), (code.name, code.constants, code.entries, code.exports))
        for name in ("f", "'f g'", "F", "'f'", "end", "", "''", "abcdefghijklmnopq"):
            if name != "f":
                self.wrong(1, f"code {name}\nentry f 0 0\nlabel 0\nreturn")
                self.wrong(2, f"code m\nentry {name} 0 0\nlabel 0\nreturn")

    def test_rows_of_all_kinds(self):
        for line in ALL_ROWS.split("\n"):
            code = Code("\n".join((*HEAD, "label 0", "label 1", line, "label 3", "return")))
            self.assertEqual(line.split(" "), [str(word) for word in code.rows[2]])
        whole = Code("\n".join((*HEAD, "label 0", "label 1", ALL_ROWS, "label 3", "return")))
        self.assertEqual(len(ALL_ROWS.split("\n")) + 4, len(whole))

    def test_what_is_no_row(self):
        for line in NO_ROWS.split("\n"):
            self.wrong(9, "\n".join((*HEAD, "label 0", "label 1", line, "label 3", "return")))

    def test_the_first_line_that_cannot_stand(self):
        lines = [*HEAD, "label 0", "return", "label 3", "return"]
        text = "\n".join(lines)
        self.assertEqual(text, Code(text).text)
        for number in range(len(HEAD) + 1):
            cut = lines[:number]
            self.wrong(min(number + 1, 4) if number else 1, "\n".join(cut))
        for number, wrong in ((1, "code"), (1, "code m m"), (1, "Code m"), (2, "const 1 1"), (2, "const 0"), (2, "const 00 1"), (2, "const 0 x y"), (2, "const 0 [1|[]]"), (3, "const 0 1"), (3, "const 2 1"), (3, "const 1  1"),
                              (4, "entry f 1"), (4, "entry f 1 0 0"), (4, "entry f 01 0"), (4, "entry f 1000 0"), (4, "entry f 1 9"), (4, "entry f -1 0"), (4, "entry f 1 x"), (5, "entry f 1 3"), (6, "export f 2"), (6, "export g 1"), (6, "export f"),
                              (6, "export f 01"), (8, "label 0"), (8, "entry g 1 0"), (8, ""), (10, "")):
            changed = list(lines)
            changed[number - 1] = wrong
            self.wrong(number, "\n".join(changed))
        self.wrong(4, text.replace("label 0", "label 3"))
        self.wrong(5, text.replace("label 3", "label 0"))
        self.wrong(7, "\n".join([*HEAD, "export f 1", *lines[6:]]))
        self.wrong(11, text + "\n")
        self.wrong(3, "code m\nconst 0 1\nlabel 0\nreturn")
        self.wrong(2, "code m\nlabel 0\nentry f 0 0\nreturn")
        for value in (None, 1, True, b"code m", ("code m",), ["code m"], {}):
            self.wrong(0, value)

    def test_lines_exchanged(self):
        lines = SWAP.split("\n")
        self.wrong(1, "\n".join([lines[1], lines[0], *lines[2:]]))
        self.wrong(2, "\n".join([lines[0], lines[2], lines[1], *lines[3:]]))
        self.wrong(3, "\n".join([*lines[:2], "export swap 1 ", *lines[3:]]))
        self.wrong(4, "\n".join([*lines[:2], lines[3], lines[2], *lines[4:]]))

    def test_a_label_is_there_by_a_line_of_its_form(self):
        self.wrong(4, "code m\nentry f 0 5\nlabel 0\nexport f 0\nlabel 5")
        self.wrong(2, "code m\nentry f 0 5\nlabel 0\nlabel 05")
        self.wrong(4, "code m\nentry f 0 0\nlabel 0\nbad\nlabel 0")
        self.wrong(4, "code m\nentry f 0 0\nlabel 0\njump 7\nlabel 7 x")


class Ways(unittest.TestCase):
    def code(self, *rows, constants=(), entries=("entry f 1 0",)):
        return Code("\n".join(("code m", *(f"const {at} {term}" for at, term in enumerate(constants)), *entries, *rows)))

    def test_the_worked_example(self):
        swap = Code(SWAP)
        self.assertEqual([(2, 7), ("x1", "x2"), 3], [ways(swap, 1), live(swap, 4), words_wanted(swap, 4)])

    def test_all_rows(self):
        for line in ALL_ROWS.split("\n"):
            code = self.code("label 0", line, "label 1", "return", "label 3", "return", constants=("1", "a"), entries=("entry f 1 0", "entry 'end' 2 3"))
            word, words = line.split(" ")[0], line.split(" ")
            rows = {"0": 0, "1": 2, "3": 4}
            if word in ("return", "raise", "fail", "last", "outlast", "applast", "spreadlast", "outspreadlast"):
                wanted = ()
            elif word in ("jump", "pass") or (word == "wait" and len(words) == 2):
                wanted = (2,)
            elif word == "pick":
                wanted = tuple(sorted({2, *(rows[label] for label in words[4::2])}))
            else:
                wanted = (2,)
            self.assertEqual(wanted, ways(code, 1), line)

    def test_next_rows_and_labels(self):
        code = self.code("label 0", "test atom 5 x0", "jump 5", "call 5 1", "look 5", "pass 5", "wait 5", "wait 5 x0", "pick 5 x0 c0 0 c0 5", "key 5 x0 x0 x0", "guard hd 5 x0 x0", "fun 1 5 0 x0", "try y0 5", "label 5", "return", constants=("1",))
        self.assertEqual([(1,), (2, 13), (13,), (4,), (5, 13), (13,), (13,), (8, 13), (0, 13), (10, 13), (11, 13), (12,), (13,), (14,), ()], [ways(code, number) for number in range(15)])

    def test_the_last_row_may_have_none_behind_it(self):
        code = self.code("label 0", "move x0 x1")
        self.assertEqual([(1,), ()], [ways(code, 0), ways(code, 1)])

    def test_what_is_raised_goes_on_at_the_innermost_try(self):
        code = self.code("label 0", "frame 2", "try y0 1", "do hd x1 x0", "try y1 2", "call 0 1", "outer 0", "apply 0", "spread", "outspread", "wait 3 x0", "wait 3", "label 2", "do hd x1 x0", "fail if_clause", "label 1", "do hd x1 x0", "raise x0 x0", "label 3", "raise x0 x0")
        self.assertEqual((4, 15), ways(code, 3))
        for number in range(5, 11):
            self.assertIn(12, ways(code, number), number)
        self.assertEqual((18,), ways(code, 11))
        self.assertEqual([(14, 15), (15,), (17,), ()], [ways(code, number) for number in (13, 14, 16, 17)])
        self.assertEqual((12,), ways(code, 19))

    def test_untry_closes_its_slots_last_one_and_those_within(self):
        def behind(*rows):
            code = self.code("label 0", "frame 3", *rows, "fail if_clause", "label 1", "return", "label 2", "return", "label 3", "return", "label 4", "return")
            at = 2 + len(rows)
            return [code.rows[number][1] for number in ways(code, at)]
        one, two, three, again = "try y0 1", "try y1 2", "try y2 3", "try y0 4"
        self.assertEqual([[], [1], [2], [1], [], [1], [3], [4], [2]], [behind(), behind(one), behind(one, two), behind(one, two, "untry y1"), behind(one, two, "untry y0"), behind(one, two, three, "untry y1"),
                                                                            behind(one, two, three, "untry y5"), behind(one, two, again), behind(one, two, again, "untry y0")])

    def test_where_no_way_leads_no_try_is_open(self):
        code = self.code("label 0", "frame 1", "try y0 1", "jump 2", "do hd x0 x0", "label 1", "return", "label 2", "do hd x0 x0", "return")
        self.assertEqual([(5,), (5, 9)], [ways(code, 4), ways(code, 8)])

    def test_functions_begin_at_the_labels_of_calls_and_funs(self):
        for row in ("call 1 2", "last 1 0", "fun 0 1 1 x1 x0"):
            code = self.code("label 0", row, "return", "label 1", "frame 1", "try y0 0", "do hd x0 x0", "return")
            self.assertEqual((0, 7), ways(code, 6))
            with self.assertRaises(Tangled) as caught:
                ways(self.code("label 0", "frame 1", "try y0 2", "label 1", row, "return", "label 2", "return"), 0)
            self.assertIn(caught.exception.value, range(3, 8))

    def test_tangled(self):
        looped = self.code("label 0", "frame 1", "label 1", "try y0 2", "test atom 3 x0", "jump 1", "label 3", "return", "label 2", "return")
        joined = self.code("label 0", "frame 1", "test atom 1 x0", "try y0 2", "label 1", "do hd x0 x0", "return", "label 2", "return")
        for code, rows in ((looped, range(2, 10)), (joined, (4, 5, 6))):
            for number in range(len(code)):
                for call in (ways, live):
                    with self.assertRaises(Tangled) as caught:
                        call(code, number)
                    self.assertIn(caught.exception.value, rows)
        fine = self.code("label 0", "frame 2", "label 1", "try y0 2", "untry y0", "test atom 3 x0", "jump 1", "label 3", "return", "label 2", "return")
        self.assertEqual((2,), ways(fine, 6))
        unlike = self.code("label 0", "frame 2", "test atom 1 x0", "try y0 2", "jump 3", "label 1", "try y1 2", "label 3", "do hd x0 x0", "return", "label 2", "return")
        self.assertRaises(Tangled, ways, unlike, 0)

    def test_errors_in_their_sequence(self):
        tangled = self.code("label 0", "frame 1", "label 1", "try y0 2", "room 1 1", "jump 1", "label 2", "return")
        for value in (-1, 8, True, False, None, "0", (0,), [], {}, 10 ** 30):
            for call in (ways, live, words_wanted):
                with self.assertRaises(NoRow) as caught:
                    call(tangled, value)
                self.assertIs(value, caught.exception.value)
        for value in (0, 1, 2, 3, 5, 6, 7):
            with self.assertRaises(NoRoom) as caught:
                words_wanted(tangled, value)
            self.assertEqual(value, caught.exception.value)
        self.assertRaises(Tangled, words_wanted, tangled, 4)


class Live(unittest.TestCase):
    code = Ways.code

    def alive(self, *rows, at=0):
        return live(self.code("label 0", *rows, "label 9", "return", constants=("1",)), at + 1)

    def test_what_rows_read(self):
        for row, wanted in (("move c0 x0", ()), ("move y3 x0", ("y3",)), ("test atom 9 x4", ("x0", "x4")), ("same 9 x2 y1", ("x0", "x2", "y1")), ("tuple x0 x1 c0 x10 x2", ("x1", "x2", "x10")), ("call 9 2", ("x0", "x1")),
                            ("outer 1", ("x0", "x1", "x2")), ("apply 2", ("x0", "x1", "x2")), ("apply 0", ("x0",)), ("spread", ("x0", "x1")), ("outspread", ("x0", "x1", "x2")), ("last 9 3", ("x0", "x1", "x2")), ("outlast 0", ("x0", "x1")), ("applast 1", ("x0", "x1")),
                            ("spreadlast", ("x0", "x1")), ("outspreadlast", ("x0", "x1", "x2")), ("return", ("x0",)), ("raise x5 y5", ("x5", "y5")), ("fail badmatch x7", ("x7",)), ("fail if_clause", ()), ("wait 0 y2", ("y2",)), ("fun 0 9 0 x0 y1 y0", ("y0", "y1")),
                            ("do + y1 y1 x2", ("x0", "x2", "y1")), ("key 9 x3 x4 x0", ("x0", "x3", "x4")), ("clear y0", ("x0",)), ("frame 2", ("x0",)), ("look 9", ()), ("take", ("x0",)), ("room 5 1", ("x0",)), ("room 5 0", ())):
            self.assertEqual(wanted, self.alive(row), row)

    def test_what_is_set_or_left_behind(self):
        for row, wanted in (("move x5 y0", ("x0", "x1", "x5", "y1")), ("clear y0 y1", ("x0", "x1")), ("frame 3", ("x0", "x1")), ("unframe", ("x0", "x1")), ("try y0 9", ("x0", "x1", "y1")), ("untry y0", ("x0", "x1", "y0", "y1")), ("room 0 1", ("x0", "y0", "y1")),
                            ("call 0 0", ("y0", "y1")), ("look 9", ("y0", "y1")), ("wait 0 c0", ("y0", "y1")), ("do self x1", ("x0", "y0", "y1")), ("guard self 9 x1", ("x0", "y0", "y1")), ("take", ("x0", "x1", "y0", "y1"))):
            self.assertEqual(wanted, self.alive(row, "tuple x0 x0 x1 y0 y1"), row)

    def test_where_it_goes_on_at_a_label_nothing_is_set(self):
        code = self.code("label 0", "guard hd 5 y1 x1", "return", "label 5", "move y1 x0", "return")
        self.assertEqual(("x0", "x1", "y1"), live(code, 1))
        code = self.code("label 0", "key 5 x2 x1 y1", "return", "label 5", "move y1 x0", "return")
        self.assertEqual(("x0", "x1", "x2", "y1"), live(code, 1))

    def test_handlers(self):
        code = self.code("label 0", "frame 3", "clear y0 y1 y2", "try y0 5", "do hd y1 x7", "label 6", "return", "label 5", "tuple x0 x0 x1 x2 y1 y2", "return")
        self.assertEqual(("x0", "x7", "y1", "y2"), live(code, 4))
        self.assertEqual(("x0", "x7", "y1", "y2"), live(code, 3))
        self.assertEqual(("x0", "x1", "x2", "y1", "y2"), live(code, 8))

    def test_rings(self):
        code = self.code("label 0", "label 1", "test cell 2 x0", "head x0 x3", "tail x0 x0", "move x2 x5", "jump 1", "label 2", "move x1 x0", "return")
        self.assertEqual(("x0", "x1", "x2"), live(code, 0))
        self.assertEqual(("x1",), live(code, 7))

    def test_pass_leaves_its_letter_behind(self):
        code = self.code("label 0", "look 1", "pass 0", "label 1", "wait 0")
        self.assertEqual([(), ()], [live(code, 1), live(code, 2)])
        code = self.code("label 0", "pass 1", "label 1", "tuple x0 x0 x1", "return")
        self.assertEqual(("x1",), live(code, 1))


class Words(unittest.TestCase):
    code = Ways.code

    def test_the_greatest_number_on_any_way(self):
        code = self.code("label 0", "room 9 1", "test atom 1 x0", "tuple x1 x0 x0", "jump 2", "label 1", "cell x0 x0 x1", "cell x0 x0 x1", "label 2", "cell x0 x0 x1", "return")
        self.assertEqual(6, words_wanted(code, 1))

    def test_where_room_ends(self):
        for row in ("room 1 1", "do hd x0 x0", "guard hd 1 x0 x0", "fun 0 1 0 x0", "own x0 f 1", "call 1 0", "outer 0", "apply 0", "spread", "outspread", "last 1 0", "outlast 0", "applast 0", "spreadlast", "outspreadlast", "look 1", "wait 1", "wait 1 x0", "return", "raise x0 x0", "fail if_clause"):
            code = self.code("label 0", "room 9 1", "cell x0 x0 x1", row, "cell x0 x0 x1", "label 1", "cell x0 x0 x1", "return")
            self.assertEqual(2, words_wanted(code, 1), row)
        for row in ("move x0 x1", "test atom 1 x0", "frame 1", "try y0 1", "untry y0", "unframe", "clear y0", "take", "label 7", "head x0 x0", "key 1 x0 x0 x0", "pick 1 x0 c0 1"):
            code = self.code("label 0", "room 9 1", "cell x0 x0 x1", row, "label 1", "tuple x0", "return", constants=("1",))
            self.assertEqual(3, words_wanted(code, 1), row)
        self.assertEqual(3, words_wanted(self.code("label 0", "room 9 1", "cell x0 x0 x1", "pass 1", "cell x0 x0 x0", "label 1", "tuple x0", "return"), 1))
        self.assertEqual(0, words_wanted(self.code("label 0", "room 9 1", "return"), 1))
        self.assertEqual(0, words_wanted(self.code("label 0", "room 9 1"), 1))

    def test_rings(self):
        making = self.code("label 0", "room 9 1", "label 1", "cell x0 x0 x0", "test atom 1 x0", "return")
        self.assertIsNone(words_wanted(making, 1))
        idle = self.code("label 0", "room 9 1", "cell x0 x0 x0", "label 1", "move x0 x1", "test atom 1 x0", "cell x0 x0 x0", "return")
        self.assertEqual(4, words_wanted(idle, 1))
        ended = self.code("label 0", "label 1", "room 9 1", "cell x0 x0 x0", "test atom 1 x0", "return")
        self.assertEqual(2, words_wanted(ended, 2))
        self.assertIsNone(words_wanted(self.code("label 0", "room 9 1", "test atom 2 x0", "return", "label 2", "tuple x1", "jump 2"), 1))

    def test_rooms_of_made_code_are_enough(self):
        rng = random.Random(4)
        for _ in range(12):
            code = code_of(drawn_module(rng))
            for number, row in enumerate(code.rows):
                if row[0] == "room":
                    self.assertLessEqual(words_wanted(code, number), row[1])


class Naive(unittest.TestCase):
    """Compared with going along all ways word for word."""

    def test_live(self):
        rng = random.Random(12)
        for _ in range(150):
            code = drawn_code(rng)
            number = rng.randrange(len(code))
            try:
                told = live(code, number)
            except Tangled:
                continue
            found = set()
            for register in [letter + str(at) for letter in "xy" for at in range(4)]:
                if reads_first(code, number, register):
                    found.add(register)
            self.assertEqual(sorted(found), list(told), code.text)


def drawn_code(rng):
    """Code by random, of few labels and registers."""
    source = lambda: rng.choice(("x0", "x1", "x2", "y0", "y1", "c0"))
    target = lambda: rng.choice(("x0", "x1", "x2", "y0", "y1"))
    label = lambda: str(rng.randrange(4))
    rows = ["label 0"]
    for number in range(1, 4):
        for _ in range(rng.randint(1, 5)):
            rows.append(rng.choice((f"move {source()} {target()}", f"test cell {label()} {source()}", f"do hd {target()} {source()}", f"tuple {target()} {source()} {source()}", f"cell {source()} {source()} {target()}", "room 5 2", f"call {label()} 1", f"jump {label()}",
                                    "frame 2", "unframe", "clear y0 y1", f"try y0 {label()}", "untry y0", f"head {source()} {target()}", "return", f"guard hd {label()} {target()} {source()}", f"raise {source()} {source()}", f"size {label()} {source()} 2", f"part {source()} 1 {target()}")))
        rows.append("label " + str(number))
    rows.append(rng.choice(("return", "fail if_clause", "move x0 x1")))
    return Code("\n".join(("code m", "const 0 {1,2}", "entry f 1 0", *rows)))


def reads_first(code, number, register):
    """Whether some way reads a register ahead of setting it or leaving it behind."""
    seen, waiting = set(), [number]
    while waiting:
        at = waiting.pop()
        if at in seen:
            continue
        seen.add(at)
        row = code.rows[at]
        word, words = row[0], [part for part in row if isinstance(part, str)]
        reads = {"move": words[1:2], "head": words[1:2], "part": words[1:2], "cell": words[1:3], "tuple": words[2:], "do": words[3:], "guard": words[3:], "test": words[2:], "size": words[1:], "raise": words[1:], "return": ["x0"], "call": ["x0"]}.get(word, [])
        if register in reads:
            return True
        targets = {"move": words[2:3], "head": words[2:3], "part": words[2:3], "cell": words[3:4], "tuple": words[1:2], "do": words[2:3], "guard": words[2:3], "clear": words[1:], "try": words[1:2]}.get(word, [])
        is_left = (word == "call" and register[0] == "x") or (word in ("frame", "unframe") and register[0] == "y") or (word == "room" and register == "x2")
        for how, behind in naive_edges(code, at):
            if how == "caught" and register[0] == "y" or how != "caught" and not is_left and (how == "label" or register not in targets):
                waiting.append(behind)
    return False


def naive_edges(code, at):
    row = code.rows[at]
    places = {one[1]: number for number, one in enumerate(code.rows) if one[0] == "label"}
    found = [("next", at + 1)] if row[0] not in ("jump", "return", "raise", "fail") and at + 1 < len(code.rows) else []
    labels = {"jump": row[1:2], "test": row[2:3], "guard": row[2:3], "size": row[1:2]}.get(row[0], ())
    found += [("label", places[label]) for label in labels]
    label = handler_of(open_tries(code)[at])
    if label is not None and row[0] in ("do", "call", "raise", "fail"):
        found.append(("caught", places[label]))
    return found


class Modules(unittest.TestCase):
    def test_code_of_a_module_is_read_again(self):
        code = code_of(Module("-module('end'). -export(['X'/1]). 'X'(A) -> {A, 'if', #{}}. g() -> fun 'X'/1."))
        self.assertEqual(code, Code(code.text))
        self.assertEqual(("end", ("X", 1), [("X", 1), ("g", 0)]), (code.name, code.exports[0], [entry[:2] for entry in code.entries]))


if __name__ == "__main__":
    unittest.main()
