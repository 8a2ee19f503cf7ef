"""Section 17: the machine, row by row, over code made by hand."""

import unittest

from arrivalmill.errors import Astray, BadAnswers, BadCodes, BadPath, BadSignals, BadStart
from arrivalmill.lifting import code_of
from arrivalmill.machine import coded_alone, stand
from arrivalmill.reading import Module
from arrivalmill.rows import Code
from arrivalmill.termtext import read_term

CONSTANTS = ("a", "1", "[]", "{a,b}", "[1,2]", "#{k=>v}", "normal", "m", "g", "error", "<>", "foo", "infinity", "0", "2", "true")
C = {text: "c" + str(number) for number, text in enumerate(CONSTANTS)}
OWN = ("pid", ())
START = ("m", "f", ())


def code(*rows, many=0, entries=(), name="m", exports=()):
    lines = [f"const {number} {text}" for number, text in enumerate(CONSTANTS)]
    return Code("\n".join(("code " + name, *lines, f"entry f {many} 0", *entries, f"export f {many}", *exports, "label 0", *rows)))


def run(*rows, terms=(), signals=(), answers=(1,), entries=(), exports=(), others=()):
    told = code(*rows, many=len(terms), entries=entries, exports=exports)
    return coded_alone((told, *others), (), ("m", "f", tuple(terms)), tuple(signals), answers)


def standing(*rows, terms=(), signals=(), answers=(1,), entries=(), exports=(), others=()):
    told = code(*rows, many=len(terms), entries=entries, exports=exports)
    return stand((told, *others), (), ("m", "f", tuple(terms)), tuple(signals), answers)


def letter(term, place=1):
    return ((9,), ("letter", term), place)


FULL = ("full", "m", "f", 0, 1)


class Values(unittest.TestCase):
    """What rows come to is told by the reason of an exit."""

    def comes_to(self, wanted, *rows, terms=(), entries=()):
        looks, end = run(*rows, "do exit x0 x0", "return", terms=terms, entries=entries)
        self.assertEqual(("ended", read_term(wanted) if isinstance(wanted, str) else wanted), end, rows)
        self.assertEqual(("end", end[1]), looks[-1])

    def test_moves_and_parts(self):
        self.comes_to("b", f"part {C['{a,b}']} 1 x0")
        self.comes_to("{[2],1}", f"head {C['[1,2]']} x1", f"tail {C['[1,2]']} x2", "tuple x0 x2 x1")
        self.comes_to("[a,1,2]", f"cell {C['a']} {C['[1,2]']} x0")
        self.comes_to("[a|1]", f"cell {C['a']} {C['1']} x0")
        self.comes_to("{}", "tuple x0")
        self.comes_to("[]", "frame 2", "clear y1", "move y1 x0")
        self.comes_to("{2}", "tail x0 x0", "tuple x0 x0", terms=(("odd", 1, 2),))

    def test_kinds(self):
        terms = {"integer": (1, -5, 2 ** 80), "atom": ("a", "true"), "boolean": ("true", "false"), "bytes": (("bytes",), ("bytes", 1)), "nil": (("list",),), "cell": (("list", 1), ("odd", 1, 2)), "tuple": (("tuple",), ("tuple", 1)), "map": (("map",), ("map", (1, 2))), "pid": (OWN,), "reference": (("ref", (), 1),),
                 "fun": (("fun", "m", "f", 0, 0, ()),)}
        for kind in terms:
            for other, rows in terms.items():
                for term in rows:
                    is_so = kind == other or (kind == "atom" and other == "boolean") or (kind == "boolean" and term == "true")
                    self.comes_to("a" if is_so else "foo", f"test {kind} 1 x0", f"move {C['a']} x0", "jump 2", "label 1", f"move {C['foo']} x0", "label 2", terms=(term,))

    def test_other_tests(self):
        fun = ("fun", "m", 3, 2, 1, (1,))
        for row, one, other, wanted in (("size 1 x0 2", ("tuple", 1, 2), 0, 1), ("size 1 x0 2", ("tuple", 1), 0, 0), ("size 1 x0 2", ("list", 1, 2), 0, 0), ("size 1 x0 0", ("tuple",), 0, 1), ("takes 1 x0 2", fun, 0, 1), ("takes 1 x0 1", fun, 0, 0), ("takes 1 x0 0", "a", 0, 0), ("takes 1 x0 2", ("tuple", 1, 2), 0, 0),
                                        ("same 1 x0 x1", 1, 1, 1), ("same 1 x0 x1", ("tuple", 1), ("tuple", 1), 1), ("same 1 x0 x1", 1, 2, 0), ("unlike 1 x0 x1", 1, 2, 1), ("unlike 1 x0 x1", "a", "a", 0), ("less 1 x0 x1", 1, "a", 1), ("less 1 x0 x1", 1, 1, 0), ("less 1 x0 x1", "a", 1, 0),
                                        ("atmost 1 x0 x1", 1, 1, 1), ("atmost 1 x0 x1", 1, 2, 1), ("atmost 1 x0 x1", ("list",), ("tuple",), 0)):
            self.comes_to("a" if wanted else "foo", row, f"move {C['a']} x0", "jump 2", "label 1", f"move {C['foo']} x0", "label 2", terms=(one, other))

    def test_pick(self):
        rows = (f"pick 1 x0 {C['1']} 2 {C['{a,b}']} 3 {C['1']} 1", "label 1", f"move {C['foo']} x0", "jump 4", "label 2", f"move {C['a']} x0", "jump 4", "label 3", f"move {C['g']} x0", "label 4")
        for term, wanted in ((1, "a"), (("tuple", "a", "b"), "g"), (2, "foo"), ("a", "foo")):
            self.comes_to(wanted, *rows, terms=(term,))

    def test_keys_of_maps(self):
        rows = ("key 1 x0 x1 x0", "jump 2", "label 1", f"move {C['foo']} x0", "label 2")
        for chart, key, wanted in ((("map", ("k", 5)), "k", 5), (("map", ("k", 5)), "l", "foo"), (("tuple", 1), 1, "foo"), (("map", (("tuple", 1), 6)), ("tuple", 1), 6)):
            self.comes_to(wanted, *rows, terms=(chart, key))

    def test_what_is_done(self):
        self.comes_to(3, "do + x0 x0 x1", terms=(1, 2))
        self.comes_to(-1, "do - x0 x0", terms=(1,))
        self.comes_to(OWN, "do self x0")
        self.comes_to(("tuple", ("ref", (), 1), ("ref", (), 2)), "do make_ref x0", "do make_ref x1", "tuple x0 x0 x1")
        self.comes_to("#{1=>b,k=>v}", "do map x0 x0 x1 x0 x2 x3 x4", terms=(1, "a", "b", "k", "v"))
        self.comes_to("#{k=>2,l=>1}", "do may x0 x0 x1 x2 x3 x4", terms=(("map", ("k", "v")), "l", 1, "k", 2))
        self.comes_to("#{k=>1}", "do must x0 x0 x1 x2", terms=(("map", ("k", "v")), "k", 1))
        self.comes_to(("map",), "do map x0")
        self.comes_to(("map",), "do may x0 x0", terms=(("map",),))

    def test_guards(self):
        rows = ("guard hd 1 x0 x0", "jump 2", "label 1", f"move {C['foo']} x0", "label 2")
        self.comes_to(1, *rows, terms=(("list", 1),))
        self.comes_to("foo", *rows, terms=(1,))
        self.comes_to("foo", "guard throw 1 x1 x0", "jump 2", "label 1", f"move {C['foo']} x0", "label 2", terms=(1,))
        self.comes_to("{a}", "guard throw 1 x1 x0", "label 1", "tuple x0 x0", terms=("a",))
        self.comes_to("#{1=>1}", "guard map 1 x0 x0 x0", "label 1", terms=(1,))

    def test_room_leaves_the_first_x(self):
        self.comes_to("{1,2}", "room 9 2", "tuple x0 x0 x1", terms=(1, 2, 3))
        with self.assertRaises(Astray):
            run("room 9 2", "move x2 x0", terms=(1, 2, 3))


class Raising(unittest.TestCase):
    def ends(self, reason, *rows, terms=(), entries=()):
        self.assertEqual(("ended", read_term(reason) if isinstance(reason, str) else reason), run(*rows, terms=terms, entries=entries)[1], rows)

    def test_what_rows_raise(self):
        self.ends("{badarg,[]}", "do hd x0 x0", terms=(1,))
        self.ends("{badarith,[]}", "do + x0 x0 x0", terms=("a",))
        self.ends("{{badmap,1},[]}", "do may x0 x0 x0 x0", terms=(1,))
        self.ends("{{badkey,1},[]}", "do must x0 x0 x1 x1", terms=(("map", (2, 2)), 1))
        self.ends("{{nocatch,5},[]}", "do throw x0 x0", terms=(5,))
        self.ends("{5,[]}", "do error x0 x0", terms=(5,))
        self.ends("5", "do exit x0 x0", terms=(5,))
        self.ends("5", "raise x0 x1", terms=("exit", 5))
        self.ends("{5,[]}", "raise x0 x1", terms=("error", 5))
        self.ends("{{nocatch,5},[]}", "raise x0 x1", terms=("throw", 5))
        self.ends("{function_clause,[]}", "fail function_clause")
        self.ends("{timeout_value,[]}", "fail timeout_value")
        self.ends("{{badmatch,7},[]}", "fail badmatch x0", terms=(7,))
        self.ends("{{bad_generator,7},[]}", "fail bad_generator x0", terms=(7,))
        self.ends("{{badarg,7},[]}", "fail badarg x0", terms=(7,))
        self.ends("{badarg,[]}", "do link x0 x0", terms=(1,))
        self.ends("{badarg,[]}", "do ! x0 x0 x0", terms=(1,))

    def test_calls_raise(self):
        self.ends("{badarg,[]}", "outer 0", terms=(1, "g"))
        self.ends("{badarg,[]}", "outer 0", terms=("m", 1))
        self.ends("{{badfun,a},[]}", "apply 0", terms=("a",))
        self.ends(("tuple", ("tuple", "badarity", ("tuple", ("fun", "m", "f", 1, 1, ()), ("list",))), ("list",)), "own x0 f 1", "apply 0", terms=(1,))
        self.ends("{badarg,[]}", "spread", terms=("a", 1))
        self.ends("{badarg,[]}", "spread", terms=("a", ("odd", 1, 2)))
        self.ends("{{badfun,a},[]}", "spread", terms=("a", ("list", 1)))
        self.ends("{badarg,[]}", "outspread", terms=("a", "b", 1))
        self.ends("{badarg,[]}", "outspread", terms=("a", 1, ("list",)))
        for fun in (("fun", "m", 7, 0, 1, (1,)), ("fun", "x", "f", 0, 1, ()), ("fun", "m", "f", 0, 2, ()), ("fun", "m", "q", 0, 1, ())):
            self.ends(("tuple", ("tuple", "badfun", fun), ("list",)), "apply 0", terms=(fun,))

    def test_tries(self):
        rows = ("frame 2", "clear y0 y1", "try y0 1", "do hd x0 x0", "untry y0", "unframe", "do exit x0 x0", "return", "label 1", "tuple x0 x0 x1", "unframe", "do exit x0 x0", "return")
        self.ends("{error,badarg}", *rows, terms=(1,))
        self.ends("1", *rows, terms=(("list", 1),))
        rows = ("frame 2", "clear y0 y1", "try y0 1", "try y1 2", "do throw x0 x0", "label 2", "tuple x0 x0 x1", "do error x0 x0", "label 1", "tuple x0 x0 x1", "do exit x0 x0")
        self.ends("{error,{throw,1}}", *rows, terms=(1,))

    def test_tries_of_callers(self):
        rows = ("frame 1", "clear y0", "try y0 1", "call 2 1", "label 1", "tuple x0 x0 x1", "do exit x0 x0", "label 2", "frame 3", "call 3 1", "unframe", "return", "label 3", "fail case_clause x0")
        self.ends("{error,{case_clause,5}}", *rows, terms=(5,))

    def test_undef(self):
        looks, end = run("outer 0", terms=("x", "g"), answers=(1, 0))
        self.assertEqual((("full", "m", "f", 2, 1), ("full", "x", "g", 0, 0), ("end", ("tuple", "undef", ("list",)))), looks)
        self.assertEqual(("ended", ("tuple", "undef", ("list",))), end)
        looks, end = coded_alone((code("return"),), (), START, (), (0,))
        self.assertEqual(((("full", "m", "f", 0, 0), ("end", ("tuple", "undef", ("list",)))), ("ended", ("tuple", "undef", ("list",)))), (looks, end))


class Calls(unittest.TestCase):
    def test_own_calls_and_last_ones(self):
        rows = ("frame 1", "move x0 y0", f"move {C['1']} x0", "call 1 1", "tuple x0 x0 y0", "do exit x0 x0", "label 1", "do + x0 x0 x0", "last 2 1", "label 2", "do + x0 x0 x0", "return")
        self.assertEqual(("ended", ("tuple", 4, 9)), run(*rows, terms=(9,))[1])

    def test_a_return_without_a_back_is_the_end(self):
        self.assertEqual(((FULL, ("end", "normal")), ("ended", "normal")), run("move c0 x0", "return"))
        self.assertEqual(((FULL, ("end", "normal")), ("ended", "normal")), run("move c0 x0", "last 1 1", "label 1", "return"))

    def test_full_calls(self):
        entries, exports = ("entry g 1 1", "entry h 0 2"), ("export g 1",)
        rows = ("frame 0", f"move {C['a']} x0", f"move {C['m']} x1", f"move {C['g']} x2", "outer 1", "do exit x0 x0", "label 1", "tuple x0 x0", "return", "label 2", "return")
        looks, end = run(*rows, entries=entries, exports=exports, answers=(1, 1))
        self.assertEqual(((FULL, ("full", "m", "g", 1, 1), ("end", ("tuple", "a"))), ("ended", ("tuple", "a"))), (looks, end))
        last = ("move c0 x0", f"move {C['m']} x1", f"move {C['g']} x2", "outlast 1", "label 1", "do exit x0 x0", "label 2", "return")
        self.assertEqual(("ended", "a"), run(*last, entries=entries, exports=exports, answers=(1, 1))[1])
        for answer in (2, True, None, "a", -1):
            with self.assertRaises(BadAnswers) as caught:
                run(*rows, entries=entries, exports=exports, answers=(1, answer))
            self.assertEqual(1, caught.exception.value)
        other = Code("code foo\nconst 0 exit\nentry g 1 5\nexport g 1\nlabel 5\nlast 6 1\nlabel 6\nraise c0 x0")
        self.assertEqual(("ended", "a"), run("move c0 x0", f"move {C['foo']} x1", f"move {C['g']} x2", "outer 1", "return", answers=(1, 1), others=(other,))[1])

    def test_between_modules(self):
        other = Code("code foo\nconst 0 m\nconst 1 h\nentry g 1 0\nexport g 1\nlabel 0\nframe 1\nmove x0 y0\nmove c0 x1\nmove c1 x2\nouter 1\ntuple x0 x0 y0\nunframe\nreturn")
        def made(*last):
            rows = ("frame 2", "clear y0 y1", "try y0 1", f"move {C['a']} x0", f"move {C['foo']} x1", f"move {C['g']} x2", "outer 1", "untry y0", "do exit x0 x0", "label 1", "tuple x0 x0 x1", "do exit x0 x0", "label 2", *last)
            return run(*rows, entries=("entry h 1 2",), exports=("export h 1",), answers=(1, 1, 1), others=(other,))[1]
        self.assertEqual(("ended", ("tuple", ("tuple", "a", "a"), "a")), made("tuple x0 x0 x0", "return"))
        self.assertEqual(("ended", ("tuple", "throw", "a")), made("do throw x0 x0", "return"))
        place = standing("frame 2", "clear y0 y1", "try y0 1", f"move {C['a']} x0", f"move {C['foo']} x1", f"move {C['g']} x2", "outer 1", "label 1", "return", "label 2", "do monotonic_time x1", "return", entries=("entry h 1 2",), exports=("export h 1",), answers=(1, 1, 1), others=(other,))
        self.assertEqual((("m", 11), ((0, "a"),), (("back", ("foo", 6)), ("frame", ("a",)), ("back", ("m", 8)), ("frame", (None, ("list",)))), ((1, 0, ("m", 8)),)), place)

    def test_functions_of_whatever_edition(self):
        fun = ("fun", "m", "g", 1, 0, ())
        rows = ("apply 1", "do exit x0 x0", "label 1", "tuple x0 x0", "return")
        self.assertEqual((("full", "m", "f", 2, 1), ("full", "m", "g", 1, 1), ("end", ("tuple", 3))), run(*rows, terms=(3, fun), entries=("entry g 1 1",), exports=("export g 1",), answers=(1, 1))[0])

    def test_funs(self):
        rows = ("fun 4 1 1 x2 x0 x1", "tuple x3 x2", f"move {C['1']} x0", "move x2 x1", "apply 1", "do exit x0 x0", "label 1", "tuple x0 x0 x1 x2", "return")
        self.assertEqual(("ended", ("tuple", 1, "p", "q")), run(*rows, terms=("p", "q"))[1])
        looks, end = run("fun 4 1 1 x2 x0 x1", "do exit x0 x2", "label 1", "return", terms=("p", "q"))
        self.assertEqual(("ended", ("fun", "m", 4, 1, 1, ("p", "q"))), end)
        self.assertEqual(("ended", ("fun", "m", "f", 0, 1, ())), run("own x0 f 0", "do exit x0 x0")[1])

    def test_spread(self):
        rows = ("own x0 g 2", f"move {C['[1,2]']} x1", "spread", "do exit x0 x0", "label 1", "tuple x0 x1 x0", "return")
        self.assertEqual(("ended", ("tuple", 2, 1)), run(*rows, entries=("entry g 2 1",))[1])
        rows = ("own x0 g 2", f"move {C['[1,2]']} x1", "spreadlast", "label 1", "do exit x0 x1")
        self.assertEqual(("ended", 2), run(*rows, entries=("entry g 2 1",))[1])
        for word in ("outspread", "outspreadlast"):
            rows = (f"move {C['m']} x0", f"move {C['g']} x1", f"move {C['[1,2]']} x2", word, "return", "label 1", "do exit x0 x1")
            looks, end = run(*rows, entries=("entry g 2 1",), exports=("export g 2",), answers=(1, 1))
            self.assertEqual((FULL, ("full", "m", "g", 2, 1), ("end", 2)), looks)

    def test_calls_within_calls(self):
        # down(n): n of 0 is the end, otherwise the worth of down(n - 1) and one more.
        rows = ("move c1 x1", "label 1", f"same 2 x0 {C['0']}", "return", "label 2", "frame 1", "move x0 y0", f"do - x0 x0 {C['1']}", "call 1 1", f"do + x0 x0 {C['1']}", "unframe", "return")
        told = ("frame 0", "call 1 1", "do exit x0 x0", *rows)
        for many in (0, 1, 500, 20000):
            self.assertEqual(("ended", many), run(*told, terms=(many,))[1])


class Receives(unittest.TestCase):
    ROWS = ("label 1", "look 2", "test atom 3 x0", "take", "do exit x0 x0", "label 3", "pass 1", "label 2", "wait 1")
    TIMED = ("label 1", "look 2", "test atom 3 x0", "take", "do exit x0 x0", "label 3", "pass 1", "label 2", "wait 1 x0", "return")

    def test_letters_are_tried_and_passed_by(self):
        self.assertEqual(((FULL,), ("waits", ())), run(*self.ROWS))
        self.assertEqual(((FULL,), ("waits", (1, 2))), run(*self.ROWS, signals=(letter(1), letter(2))))
        self.assertEqual((FULL, ("receive", "b"), ("end", "b")), run(*self.ROWS, signals=(letter(1, 0), letter("b", 0), letter("c", 0)))[0])
        self.assertEqual((FULL, ("receive", "b"), ("end", "b")), run(*self.ROWS, signals=(letter(1, 0), letter("b", 1), letter("c", 1)))[0])

    def test_what_is_passed_by_is_looked_at_anew(self):
        rows = ("frame 1", "label 1", "look 2", "test atom 3 x0", "take", "move x0 y0", "label 4", "look 5", "take", "tuple x0 x0 y0", "do exit x0 x0", "label 5", "wait 4", "label 3", "pass 1", "label 2", "wait 1")
        looks, end = run(*rows, signals=(letter(1), letter(2), letter("b")))
        self.assertEqual((FULL, ("receive", "b"), ("receive", 1), ("end", ("tuple", 1, "b"))), looks)

    def test_slots_are_as_at_the_look(self):
        rows = ("frame 1", "clear y0", "label 1", "look 2", "same 4 x0 c1", "take", "move y0 x0", "do exit x0 x0", "label 4", "move x0 y0", "pass 1", "label 2", "wait 1")
        self.assertEqual(("ended", ("list",)), run(*rows, signals=(letter("b"), letter(1)))[1])

    def test_times(self):
        rows = ("frame 1", "move x0 y0", *[row.replace("x0", "y0") if row.startswith("wait") else row for row in self.TIMED])
        def timed(time, signals=(), answers=(1,)):
            return run(*rows[:-1], f"move {C['foo']} x0", "do exit x0 x0", terms=(time,), signals=signals, answers=answers)
        full = ("full", "m", "f", 1, 1)
        self.assertEqual(((full, ("over",), ("end", "foo")), ("ended", "foo")), timed(0))
        self.assertEqual(((full, ("wait", 2)), ("waits", ())), timed(2))
        self.assertEqual(((full, ("wait", 2), ("over",), ("end", "foo")), ("ended", "foo")), timed(2, (("clock", ("over", 0), 2),)))
        self.assertEqual(((full, ("wait", 2)), ("waits", (1,))), timed(2, (("clock", ("over", 1), 2), letter(1, 2))))
        self.assertEqual(((full, ("receive", "b"), ("end", "b")), ("ended", "b")), timed(2, (letter("b", 1),)))
        self.assertEqual(((full, ("wait", 2), ("receive", "b"), ("end", "b")), ("ended", "b")), timed(2, (letter(1, 2), letter("b", 2), ("clock", ("over", 0), 2))))
        self.assertEqual(((full, ("wait", 2), ("over",), ("end", "foo")), ("ended", "foo")), timed(2, (letter(1, 2), ("clock", ("over", 0), 2), letter("b", 2))))
        self.assertEqual(((full, ("receive", "b"), ("end", "b")), ("ended", "b")), timed(0, (letter("b", 1),)))

    def test_deeds(self):
        rows = ("do spawn x0 x0 x1 x2", "do monitor x1 x3 x0", "do process_flag x2 x4 x5", "do monotonic_time x3", "tuple x0 x0 x1 x2 x3", "do ! x0 x6 x0", "do whereis x0 x0", "do exit x0 x0")
        terms = ("m", "f", ("list", 1), "process", "trap_exit", "true", ("pid", (5,)))
        looks, end = run(*[row.replace("x6", C["<>"]) for row in rows[:5]], "do exit x1 x6 x0", "do exit x0 x0", terms=terms, answers=(1, 7))
        child = ("pid", (1,))
        self.assertEqual((("full", "m", "f", 7, 1), ("begin", "alone", child, ("call", "m", "f", (1,)), None), ("watch", ("ref", (), 1), child, child), ("trap", True, False), ("clock", 7), ("exit", ("pid", (5,)), ("tuple", child, ("ref", (), 1), "false", 7))), looks[:6])
        self.assertEqual(("ended", ("tuple", child, ("ref", (), 1), "false", 7)), end)
        self.assertEqual(("asks", "clock"), run(*rows[:4], terms=terms)[1])
        self.assertEqual(("asks", "full"), run("return", answers=())[1])

    def test_an_exit_of_oneself(self):
        looks, end = run("do self x0", f"do exit x0 x0 {C['foo']}", "return")
        self.assertEqual((FULL, ("exit", OWN, "foo"), ("end", "foo")), looks)
        self.assertEqual(("ended", "foo"), end)

    def test_four_hundred_looks(self):
        rows = ("frame 1", "move x0 y0", "label 1", "do monotonic_time x0", "jump 1")
        looks, end = run(*rows, terms=(1,), answers=(1, *range(500)))
        self.assertEqual((400, ("long",)), (len(looks), end))
        self.assertEqual((("m", 4), ((0, 398),), (("frame", (1,)),), ()), standing(*rows, terms=(1,), answers=(1, *range(500))))


class Gone(unittest.TestCase):
    """Rows that would do what they cannot."""

    def astray(self, at, *rows, terms=(), signals=(), answers=(1,), entries=(), exports=()):
        for call in (run, standing):
            with self.assertRaises(Astray) as caught:
                call(*rows, terms=terms, signals=signals, answers=answers, entries=entries, exports=exports)
            self.assertEqual(("m", at), caught.exception.value, rows)

    def test_what_is_not_set(self):
        for row in ("move x1 x0", "move y0 x0", "test atom 1 x1", "size 1 x1 0", "same 1 x0 x1", "pick 1 x1 c0 1", "part x1 0 x0", "key 1 x1 x0 x0", "key 1 x0 x1 x0", "cell x0 x1 x0", "tuple x0 x1", "do hd x0 x1", "do + x0 x0 x1", "do link x0 x1", "guard hd 1 x0 x1", "fun 1 1 0 x0 x1", "call 1 2", "outer 0", "apply 1",
                    "spread", "outspread", "last 1 2", "outlast 0", "applast 1", "spreadlast", "outspreadlast", "raise x0 x1", "fail badmatch x1"):
            self.astray(1, row, "label 1", "return", terms=(1,))
        self.astray(1, "return")
        self.astray(2, "frame 2", "move y1 x0", terms=(1,))
        self.astray(3, "frame 2", "move x0 y0", "move y1 x0", terms=(1,))
        self.astray(4, "call 1 1", "return", "label 1", "move x1 x0", terms=(1, 2))
        self.astray(3, "move x1 x2", "call 1 1", "move x2 x0", "label 1", "return", terms=(1, 2))

    def test_frames_that_are_not_there(self):
        for row in ("move x0 y0", "clear y0", "try y0 1", "untry y0", "unframe", "do hd y0 x0", "do self y0"):
            self.astray(1, row, "label 1", "return", terms=(("list", 1),))
        self.astray(2, "frame 1", "move x0 y1", terms=(1,))
        self.astray(2, "frame 1", "try y1 0", terms=(1,))
        self.astray(5, "frame 1", "call 1 1", "return", "label 1", "unframe", terms=(1,))

    def test_with_a_frame_on(self):
        for row in ("return", "last 0 1", "outlast 0", "applast 0", "spreadlast", "outspreadlast"):
            self.astray(2, "frame 0", row, terms=("m", "f", ("list",)))
        self.astray(4, "frame 1", "clear y0", "try y0 1", "unframe", "label 1", "return")

    def test_parts_that_are_not_there(self):
        for row, term in (("part x0 0 x0", ("tuple",)), ("part x0 2 x0", ("tuple", 1, 2)), ("part x0 0 x0", ("list", 1)), ("head x0 x0", ("list",)), ("head x0 x0", "a"), ("tail x0 x0", ("tuple", 1)), ("tail x0 x0", ("list",))):
            self.astray(1, row, terms=(term,))

    def test_other_ways(self):
        self.astray(1, "take")
        self.astray(1, "pass 0")
        self.astray(1, "raise x0 x0", terms=("a",))
        self.astray(1, "raise x0 x0", terms=(1,))
        self.astray(1, "wait 0")
        self.astray(2, "move c0 x0", "move x9 x0")
        self.astray(2, "move c0 x0")
        self.astray(3, "jump 1", "label 1")
        self.astray(5, "label 1", "look 2", "take", "label 2", "wait 5", "label 5", "return")
        self.astray(2, "look 1", "move x5 x0", "take", "label 1", "wait 0", signals=(letter(1),))
        self.astray(2, "look 1", "move x5 x0", "take", "label 1", "wait 0", signals=(letter(1, 0),))

    def test_a_jump_to_a_wait(self):
        self.astray(5, "jump 1", "label 2", "look 1", "label 1", "wait 2")

    def test_what_was_done_ahead_is_not_told(self):
        self.astray(2, "do self x0", "move x5 x0", signals=(letter(1, 0),))


class Stands(unittest.TestCase):
    def test_ahead_of_the_first_full_call(self):
        self.assertEqual(("begins",), standing("return", answers=()))

    def test_ended(self):
        self.assertEqual(("ended", "normal"), standing("move c0 x0", "return"))
        self.assertEqual(("ended", "x"), standing("move c0 x0", "return", answers=(), signals=(((9,), ("exit", "x", False, 0), 0),)))

    def test_ahead_of_a_look(self):
        self.assertEqual((("m", 2), ((0, ("tuple", 1)), (3, "a")), (), ()), standing("move c0 x3", "do monotonic_time x0", terms=(("tuple", 1),)))
        rows = ("frame 2", "clear y0 y1", "try y0 1", "move x0 y1", "call 2 3", "unframe", "return", "label 1", "return", "label 2", "frame 1", "outer 1", "return")
        self.assertEqual((("m", 12), ((0, "v"), (1, "m"), (2, "g")), (("frame", (None,)), ("back", ("m", 6)), ("frame", (None, "v"))), ((1, 0, ("m", 8)),)), standing(*rows, terms=("v", "m", "g")))

    def test_tries(self):
        rows = ("frame 2", "clear y0 y1", "try y0 1", "call 2 1", "unframe", "return", "label 1", "return", "label 2", "frame 1", "clear y0", "try y0 3", "do monotonic_time x0", "label 3", "return")
        self.assertEqual((("m", 13), ((0, 5),), (("frame", (None,)), ("back", ("m", 5)), ("frame", (None, ("list",)))), ((3, 0, ("m", 14)), (1, 0, ("m", 7)))), standing(*rows, terms=(5,)))

    def test_at_a_receive(self):
        rows = Receives.ROWS
        self.assertEqual((("m", 9), (), (), ()), standing(*rows))
        self.assertEqual((("m", 9), (), (), ()), standing(*rows, signals=(letter(1),)))
        timed = ("frame 1", "move c14 y0", *Receives.TIMED[:-2], "wait 1 y0", "return")
        self.assertEqual((("m", 11), (), (("frame", (2,)),), ()), standing(*timed))

    def test_ahead_of_what_is_answered(self):
        self.assertEqual((("m", 2), ((0, 1), (1, "a")), (), ()), standing("move c0 x1", "do ! x0 x1 x0", terms=(1,)))

    def test_behind_four_hundred_looks(self):
        rows = ("frame 1", "clear y0", "label 1", "do self x0", f"do ! x1 x0 {C['a']}", "label 2", "look 3", "move x0 x3", "take", "jump 1", "label 3", "wait 2")
        told = standing(*rows)
        looks, end = run(*rows)
        self.assertEqual((400, ("long",), ("send", OWN, "a")), (len(looks), end, looks[-1]))
        self.assertEqual((("m", 9), ((0, "a"), (3, "a")), (("frame", (("list",),)),), ()), told)


class Errors(unittest.TestCase):
    def test_in_their_sequence(self):
        one, two = code("return"), code("return", name="x")
        for value in (None, (), one, [one], (one, one), (one, code("jump 0")), (one, None), (Module("-module(m)."),), tuple(code("return", name="m" + str(number)) for number in range(7)), True, {one.name: one}):
            for call in (coded_alone, stand):
                with self.assertRaises(BadCodes) as caught:
                    call(value, None, None, None, None)
                self.assertIs(value, caught.exception.value)
        self.assertEqual(("asks", "full"), coded_alone((one, two), (), START, (), ())[1])
        for call in (coded_alone, stand):
            for error, arguments, wanted in ((BadPath, (1, None, None, None), 1), (BadPath, ((0,), None, None, None), (0,)), (BadStart, ((), ("m", "f"), None, None), ("m", "f")), (BadStart, ((), ("m", "f", tuple(range(10))), None, None), ("m", "f", tuple(range(10)))), (BadSignals, ((), START, None, None), -1),
                                                (BadSignals, ((), START, (((), ("letter", 1), 0),), None), 0), (BadAnswers, ((), START, (), None), -1), (BadAnswers, ((), START, (), [1]), -1), (BadAnswers, ((), START, (), (True,)), 0), (BadSignals, ((), START, (letter(1, 5),), (1,)), 0)):
                told = code("move c0 x0", "return")
                with self.assertRaises(error) as caught:
                    call((told,), *arguments)
                self.assertEqual(wanted, caught.exception.value)

    def test_functions_that_are_not_exported(self):
        told = Code(code("return").text.replace("\nexport f 0", ""))
        with self.assertRaises(BadAnswers):
            coded_alone((told,), (), START, (), (1,))
        self.assertEqual(("full", "m", "f", 0, 0), coded_alone((told,), (), START, (), (0,))[0][0])

    def test_by_name(self):
        told = code_of(Module("-module(m). -export([f/0]). f() -> receive X -> X end."))
        looks, end = coded_alone(answers=(1,), signals=(letter(7),), start=START, path=(), codes=(told,))
        self.assertEqual((FULL, ("receive", 7), ("end", "normal")), looks)
        self.assertEqual(("ended", "normal"), stand(answers=(1,), signals=(letter(7),), start=START, path=(), codes=(told,)))


if __name__ == "__main__":
    unittest.main()
