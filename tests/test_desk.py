"""Section 22: desks and journals; section 3 (f): a desk stands where its steps led."""

import random
import unittest

from arrivalmill.desk import Desk, path_text
from arrivalmill.errors import BadJournal, BadName, BadNumber, BadPath, BadStep, BadWish, Held, MillError, NoMark, TooFar
from arrivalmill.journals import journal, read_journal
from arrivalmill.reading import Module
from arrivalmill.records import same_run
from arrivalmill.weavings import System, next_steps, standing, story
from tests.systems import ALL, MANY, one, system, world_of

GO, CHILD, TICK = ("go", ()), ("go", (1,)), ("tick",)
SMALL = one("C = spawn(m, g, [self()]), register(kid, C), C ! a, C ! b, receive X -> X after 2 -> none end", "g(P) -> receive a -> P ! b end.")


def state(desk):
    return (desk.steps, desk.place, desk.weaving, desk.marks, len(desk), journal(desk))


class Desks(unittest.TestCase):
    def raises(self, desk, kind, value, call, *arguments):
        kept = state(desk)
        with self.assertRaises(kind) as caught:
            call(*arguments)
        self.assertEqual((type(value), value), (type(caught.exception.value), caught.exception.value))
        self.assertEqual(kept, state(desk))

    def stepped(self, *steps, told=SMALL):
        desk = Desk(told)
        for step in steps:
            desk.step(step)
        return desk

    def test_at_first(self):
        desk = Desk(SMALL)
        self.assertIs(SMALL, desk.system)
        self.assertEqual(((), 0, (), (), 0), state(desk)[:5])
        self.assertEqual(desk, Desk(system=SMALL))

    def test_the_worked_example(self):
        desk = Desk(System((Module("-module(m). -export([f/0]). f() -> self() ! hallo, receive X -> X end."),), ("m", "f", ())))
        self.assertEqual(([("send", ("pid", ()), "hallo"), ("receive", "hallo"), ("end", "normal")], 3), ([desk.step(("go", ())) for _ in range(4)][1:], desk.first(("look", (), "receive"))))

    def test_steps(self):
        desk = Desk(SMALL)
        self.assertEqual([("full", "m", "f", 0, 1), ("begin", "alone", ("pid", (1,)), ("call", "m", "g", (("pid", ()),)), None), ("give", "kid", ("pid", (1,)), True), ("send", ("pid", (1,)), "a"), None, None, ("full", "m", "g", 1, 1)], [desk.step(step) for step in (GO, GO, GO, GO, TICK, ("come", (), (1,)), CHILD)])
        self.assertEqual((7, 7, (GO, GO, GO, GO, TICK, ("come", (), (1,)), CHILD)), (desk.place, len(desk), desk.steps))
        self.assertIsNone(desk.on(0))
        ended = one("exit(spawn(m, g, []), kill), exit(self(), x)", "g() -> receive never -> 1 end.")
        desk = Desk(ended)
        self.assertEqual(("exit", ("pid", (1,)), "kill"), [desk.step(GO) for _ in range(3)][2])
        self.assertEqual(("end", "killed"), desk.step(("come", (), (1,))))
        self.assertEqual(("end", "x"), desk.step(GO))
        purging = system("-module(m). -export([f/0]). f() -> load(m, 1), purge(m).", "-module(m).")
        desk = self.stepped(GO, GO, told=purging)
        self.assertEqual(("end", "killed"), desk.step(GO))
        purged = system("-module(m). -export([f/0, g/0]). f() -> spawn(m, g, []), receive after 1 -> 1 end, v:go(). g() -> receive never -> 1 end.", "-module(v). -export([go/0]). go() -> load(m, 0), load(m, 1), purge(m).", "-module(m).")
        desk = self.stepped(GO, GO, CHILD, GO, TICK, ("come", "clock", ()), GO, GO, GO, told=purged)
        self.assertEqual([("load", "m", 1, ("tuple", "error", "not_purged")), ("purge", "m", 1)], [desk.step(GO), desk.step(GO)])

    def test_steps_that_cannot_be_done(self):
        desk = self.stepped(GO)
        for value in (None, True, (), "go", ("go",), ("go", ()) + ((),), CHILD, ["go", ()], ("go", []), ("tick", 1), ("come", (), (1,)), ("come", "clock", ()), ("Go", ()), {}, (GO,), ("go", (True,)), 1):
            self.raises(desk, BadStep, value, desk.step, value)
        desk.back(1)
        self.raises(desk, BadStep, CHILD, desk.step, CHILD)

    def test_back_and_on(self):
        desk = self.stepped(GO, GO, GO, TICK)
        self.assertIsNone(desk.back(3))
        self.assertEqual((4, 1, (GO,), 1), (len(desk.steps), desk.place, desk.weaving, len(desk)))
        self.assertIsNone(desk.on(2))
        self.assertEqual((3, (GO, GO, GO)), (desk.place, desk.weaving))
        self.raises(desk, TooFar, 3, desk.back, 4)
        self.raises(desk, TooFar, 1, desk.on, 2)
        desk.on(1)
        self.raises(desk, TooFar, 0, desk.on, 1)
        desk.back(4)
        self.raises(desk, TooFar, 0, desk.back, 1)
        for value in (-1, True, None, "1", (1,), 1.5, []):
            self.raises(desk, BadNumber, value, desk.back, value)
            self.raises(desk, BadNumber, value, desk.on, value)
        desk.on(4)
        self.assertEqual((GO, GO, GO, TICK), desk.weaving)

    def test_a_step_drops_what_is_behind(self):
        desk = self.stepped(GO, GO, GO, TICK)
        desk.back(2)
        desk.step(TICK)
        self.assertEqual(((GO, GO, TICK), 3), (desk.steps, desk.place))
        self.raises(desk, TooFar, 0, desk.on, 1)

    def test_marks(self):
        desk = self.stepped(GO, GO, GO)
        desk.back(1)
        self.assertIsNone(desk.mark("zz"))
        desk.back(1)
        desk.mark("ab")
        self.assertEqual(("ab", "zz"), desk.marks)
        self.assertEqual(((GO, GO, GO), 1), (desk.steps, desk.place))
        self.raises(desk, Held, "ab", desk.mark, "ab")
        for value in (None, "", "a b", "A", "a1", "abcdefghi", 1, True, ("a",), [], "_", "a\n"):
            self.raises(desk, BadName, value, desk.mark, value)
            for call in (desk.to, desk.beside):
                self.raises(desk, NoMark, value, call, value)
        for call in (desk.to, desk.beside):
            self.raises(desk, NoMark, "b", call, "b")
        desk.mark("abcdefgh")
        self.assertIsNone(desk.to("zz"))
        self.assertEqual(((GO, GO), 2), (desk.steps, desk.place))
        self.raises(desk, TooFar, 0, desk.on, 1)
        self.assertEqual(("same",), desk.beside("zz"))
        self.assertEqual(("begun", (1,)), desk.beside("ab"))
        self.assertEqual(same_run(SMALL, (GO, GO), (GO,)), desk.beside("ab"))

    def test_first(self):
        desk = self.stepped(GO, GO, GO, GO, GO, CHILD, GO, ("come", (), (1,)), ("come", (), (1,)), CHILD, CHILD, CHILD, ("come", (1,), ()), GO, GO)
        for wish, wanted in ((("ended", (1,)), 12), (("ended", ()), 15), (("ended", (2,)), None), (("look", (), "full"), 1), (("look", (), "begin"), 2), (("look", (1,), "full"), 6), (("look", (1,), "send"), 11), (("look", (), "wait"), 7), (("look", (), "foo"), None), (("look", (9,), "full"), None), (("look", (1,), "end"), 12), (("look", (), ""), None),
                             (("box", (), 0), 0), (("box", (1,), 0), 2), (("box", (1,), 1), 8), (("box", (1,), 2), 9), (("box", (1,), 3), None), (("box", (), 1), 13), (("box", (5,), 0), None), (("name", "kid"), 3), (("name", "nobody"), None), (("name", "undefined"), None), (("ended", tuple(range(1, 60))), None)):
            self.assertEqual(wanted, desk.first(wish), wish)
        desk.back(12)
        self.assertEqual([None, 3, 1, None], [desk.first(wish) for wish in (("ended", (1,)), ("name", "kid"), ("look", (), "full"), ("box", (1,), 1))])
        desk.back(1)
        self.assertIsNone(desk.first(("name", "kid")))

    def test_wishes_that_are_none(self):
        desk = self.stepped(GO)
        for value in (None, (), "ended", ("ended",), ("ended", ()) + ((),), ("ended", 1), ("ended", [1]), ("ended", (0,)), ("ended", (True,)), ("ended", ("a",)), ("look", ()), ("look", (), 1), ("look", (0,), "a"), ("look", (), None), ("look", (), "a", 1), ("box", ()), ("box", (), -1), ("box", (), True), ("box", (), "1"), ("box", 1, 1), ("name",), ("name", 1), ("name", "a b"), ("name", ""),
                      ("name", ("a",)), ("Name", "a"), ("names", "a"), ["name", "a"], ("name", "a", 1), (("name",), "a"), True, 1, {}):
            self.raises(desk, BadWish, value, desk.first, value)

    def test_copies_and_equal_ones(self):
        desk = self.stepped(GO, GO)
        desk.mark("a")
        desk.back(1)
        other = desk.copy()
        self.assertEqual(desk, other)
        self.assertEqual(state(desk), state(other))
        other.step(TICK)
        other.mark("b")
        self.assertNotEqual(desk, other)
        self.assertEqual(((GO, GO), 1, ("a",)), (desk.steps, desk.place, desk.marks))
        desk.on(1)
        self.assertEqual((GO, TICK), other.weaving)
        for value in (None, journal(desk), 1, desk.steps):
            self.assertNotEqual(desk, value)
        twin = self.stepped(GO, GO)
        self.assertNotEqual(desk, twin)
        twin.mark("a")
        self.assertEqual(desk, twin)
        twin.back(1)
        self.assertNotEqual(desk, twin)
        again = System((Module(SMALL.modules[0].text + " "),), SMALL.start)
        self.assertEqual(SMALL, again)
        self.assertNotEqual(Desk(SMALL), Desk(again))

    def test_paths(self):
        for path, wanted in (((), "/"), ((1,), "/1"), ((1, 2), "/1/2"), ((10, 200, 3), "/10/200/3")):
            self.assertEqual(wanted, path_text(path))
        self.assertEqual("/7", path_text(path=(7,)))
        for value in (None, "/", 1, [1], (0,), (True,), ("a",), tuple(range(1, 42)), (1, None), {}):
            with self.assertRaises(BadPath) as caught:
                path_text(value)
            self.assertIs(value, caught.exception.value)

    def test_by_random(self):
        rng = random.Random(5)
        for told in (SMALL, MANY, ALL["editions"]):
            for _ in range(8):
                desk, steps, place, marks, branches = Desk(told), [], 0, {}, []
                for _ in range(70):
                    deed = rng.random()
                    if deed < 0.6:
                        step = rng.choice([one for one in next_steps(told, tuple(steps[:place])) if one != TICK or rng.random() < 0.3] or [TICK])
                        ahead = world_of(told, tuple(steps[:place]))
                        looked = desk.step(step)
                        steps, place = steps[:place] + [step], place + 1
                        if step == TICK:
                            self.assertIsNone(looked)
                        else:
                            looks = story(told, tuple(steps), step[-1])
                            self.assertEqual(looks[-1] if len(looks) > len(ahead.doers[step[-1]].story) else None, looked)
                    elif deed < 0.75:
                        many = rng.randint(0, place)
                        desk.back(many)
                        place -= many
                    elif deed < 0.85:
                        many = rng.randint(0, len(steps) - place)
                        desk.on(many)
                        place += many
                    elif deed < 0.9 and len(marks) < 5:
                        name = "abcdefg"[len(marks)]
                        desk.mark(name)
                        marks[name] = tuple(steps[:place])
                    elif deed < 0.95 and marks:
                        name = rng.choice(sorted(marks))
                        desk.to(name)
                        steps, place = list(marks[name]), len(marks[name])
                    else:
                        branches.append((desk.copy(), state(desk)))
                    self.assertEqual((tuple(steps), place, tuple(steps[:place]), tuple(sorted(marks)), place), state(desk)[:5])
                    self.assertEqual(standing(told, tuple(steps[:place])), standing(told, desk.weaving))
                for branch, kept in branches:
                    self.assertEqual(kept, state(branch))
                for name, weaving in marks.items():
                    self.assertEqual(same_run(told, desk.weaving, weaving), desk.beside(name))
                again = read_journal(journal(desk))
                self.assertEqual((desk, state(desk)), (again, state(again)))
                self.assertEqual(desk.first(("ended", (1,))), again.first(("ended", (1,))))
                if again.place < len(again.steps):
                    again.on(1)
                    desk.on(1)
                    self.assertEqual(desk, again)


TEXT = """modules 2
|-module(m). -export([f/1]).
|
|f(X) -> X ! x:y(), receive a -> 1 after 1 -> 2 end.
end
|-module(x). -export([y/0]). y() -> a.
end
start {m,f,[nobody]}
go /
tick
go /
go /
place 2
mark a
mark b
go /
go /
mark c
tick"""


class Journals(unittest.TestCase):
    def wrong(self, number, text):
        with self.assertRaises(BadJournal) as caught:
            read_journal(text)
        self.assertEqual((int, number), (type(caught.exception.value), caught.exception.value), text)

    def changed(self, number, line):
        lines = TEXT.split("\n")
        lines[number - 1] = line
        return "\n".join(lines)

    def test_there_and_back(self):
        desk = read_journal(TEXT)
        self.assertEqual(TEXT, journal(desk))
        self.assertEqual(((GO, TICK, GO, GO), 2, ("a", "b", "c")), (desk.steps, desk.place, desk.marks))
        self.assertEqual(("m", "f", ("nobody",)), desk.system.start)
        self.assertEqual("-module(m). -export([f/1]).\n\nf(X) -> X ! x:y(), receive a -> 1 after 1 -> 2 end.", desk.system.modules[0].text)
        desk.to("b")
        self.assertEqual((GO, GO), desk.weaving)
        self.assertEqual(TEXT, journal(desk=read_journal(text=TEXT)))

    def test_steps_of_all_kinds(self):
        told = one("C = spawn(m, g, [self()]), monitor(process, nobody), C ! a, receive X -> X after 1 -> none end", "g(P) -> receive a -> P ! b end.")
        desk = Desk(told)
        for step in (GO, GO, GO, ("come", "names", ()), GO, CHILD, ("come", (), (1,)), CHILD, CHILD, ("come", (1,), ()), TICK):
            desk.step(step)
        lines = journal(desk).split("\n")
        self.assertEqual(["go /", "go /", "go /", "come names /", "go /", "go /1", "come / /1", "go /1", "go /1", "come /1 /", "tick", "place 11"], lines[4:])
        self.assertEqual(desk, read_journal("\n".join(lines)))
        waits = Desk(one("receive after 1 -> 1 end"))
        for step in (GO, GO, TICK, ("come", "clock", ())):
            waits.step(step)
        self.assertIn("come clock /", journal(waits).split("\n"))
        self.assertEqual(waits, read_journal(journal(waits)))

    def test_texts_of_modules(self):
        for text in ("-module(m). -export([f/0]). f() -> 1.\n", "\n\n-module(m). -export([f/0]).\nf() -> 1. \n ", "-module(m). -export([f/0]). f() -> [$|, $e, 'end']."):
            desk = Desk(System((Module(text),), ("m", "f", (1, ("list", "a", ("map",))))))
            again = read_journal(journal(desk))
            self.assertEqual((text, desk), (again.system.modules[0].text, again))

    def test_lines_that_cannot_stand(self):
        for number, line in ((1, "module 2"), (1, "modules"), (1, "modules 02"), (1, "modules -1"), (1, "modules a"), (1, "modules 2 "), (1, ""), (2, "-module(m)."), (2, "end"), (2, ""), (5, "ende"), (5, "end "), (5, "END"), (5, "|end"), (8, "start {m,f}"), (8, "start {m,f,nobody}"), (8, "start {m,f,[nobody|a]}"), (8, "start {m,f,[<>]}"), (8, "start {m,1,[a]}"), (8, "start {m, f,[a]}"),
                             (8, "start [m,f,[a]]"), (8, "start"), (8, "Start {m,f,[a]}"), (8, "start {m,f,[1,2,3,4,5,6,7,8,9,10]}"), (8, "start {m,f,[fun m:f/1]}"), (9, "go /1"), (9, "go"), (9, "go  /"), (9, "go / "), (9, "go 1"), (9, "go /01"), (9, "go //"), (9, "go /0"), (9, "go clock"), (9, "come / /1"), (9, "come clock /"), (9, "come /"), (9, "come"), (9, "tick 1"), (9, "ticks"), (9, ""), (9, "Go /"), (9, "go /a"), (12, "go /1"),
                             (13, "place 5"), (13, "place"), (13, "place -1"), (13, "place 01"), (13, "place a"), (13, "places 1"), (13, ""), (13, "mark a"), (14, "mark"), (14, "mark A"), (14, "mark abcdefghi"), (14, "mark a b"), (14, "mark b"), (15, "mark a"), (14, "place 2"), (14, ""), (15, "mark aa1"), (16, "go /1"), (18, "mark b"), (18, "mark a"), (18, "mark "), (19, "tack"), (19, "go /2"), (19, "")):
            if (number, line) == (14, "mark b"):
                self.wrong(15, self.changed(number, line))
            elif (number, line) == (5, "|end"):
                self.wrong(7, self.changed(number, line))
            else:
                self.wrong(number, self.changed(number, line))

    def test_lines_that_are_missing(self):
        lines = TEXT.split("\n")
        for many in range(1, 13):
            self.wrong(many + 1, "\n".join(lines[:many]))
        for many in range(13, 20):
            self.assertEqual("\n".join(lines[:many]), journal(read_journal("\n".join(lines[:many]))))
        self.wrong(1, "")
        self.wrong(2, "modules 0")
        self.wrong(20, TEXT + "\n")

    def test_modules(self):
        self.wrong(5, TEXT.replace("f(X) -> X !", "f(X) -> !"))
        self.wrong(5, TEXT.replace("|f(X) ->", "|f(X) -> 1; f() ->"))
        self.wrong(7, TEXT.replace("y() -> a.", "y() ->"))
        self.wrong(8, TEXT.replace("x:y(),", "Y,"))
        self.wrong(2, "modules 0\nstart {m,f,[]}\nplace 0")
        self.wrong(5, "modules 2\n|-module(m). -export([f/0]). f() -> 1.\nend\n|-module(x).\nstart {m,f,[]}\nplace 0")
        self.wrong(4, "modules 1\n|-module(m).\nend\n|-module(x).\nend\nstart {m,f,[]}\nplace 0")
        many = lambda number: "modules " + str(number) + "\n" + "|-module(m).\nend\n" * number + "start {m,f,[]}\nplace 0"
        self.assertEqual(6, len(read_journal(many(6)).system.modules))
        self.wrong(16, many(7))
        self.wrong(4, "modules 999999999999\n|-module(m).\nend")
        self.wrong(2, "modules 1\nend\nstart {m,f,[]}\nplace 0")

    def test_what_is_no_string(self):
        for value in (None, 1, True, b"modules", TEXT.split("\n"), (), {}, Desk(SMALL)):
            self.wrong(0, value)

    def test_slips_by_random(self):
        rng = random.Random(3)
        desk = Desk(MANY)
        for _ in range(40):
            desk.step(rng.choice(next_steps(MANY, desk.weaving)))
            if rng.random() < 0.1:
                desk.mark("abcdefghijklmnop"[len(desk.marks)])
        lines = journal(desk).split("\n")
        for _ in range(150):
            changed = list(lines)
            at = rng.randrange(len(lines))
            way = rng.randint(0, 2)
            if way == 0:
                del changed[at]
            elif way == 1:
                changed.insert(at, changed[at])
            else:
                changed[at] = changed[at][:-1]
            text = "\n".join(changed)
            try:
                self.assertEqual(text, journal(read_journal(text)))
            except MillError as error:
                self.assertIsInstance(error, BadJournal)
                number = error.value
                self.assertTrue(1 <= number <= len(changed) + 1)
                # The lines ahead of the wrong one are the beginning of some journal.
                ahead = changed[:number - 1]
                if any(line.startswith("place ") for line in ahead):
                    self.assertEqual("\n".join(ahead), journal(read_journal("\n".join(ahead))))


if __name__ == "__main__":
    unittest.main()
