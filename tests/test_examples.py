"""All worked examples of the document."""

import doctest
import os
import re
import unittest

DOC = os.path.join(os.path.dirname(__file__), "..", "..", "shared", "DOC.md")

SECTION_4 = r"""
>>> from arrivalmill.terms import is_term, sort_terms
>>> one, nil = ("list", 1), ("list",)
>>> [is_term(True), is_term("EXIT"), is_term("a b"), is_term((1, 2)), is_term(("odd", 1, nil))]
[False, True, False, False, False]
>>> sort_terms((one, nil, ("bytes",), ("tuple",), ("odd", 1, 2), "a", 3, ("pid", (1,)), ("map",), ("ref", (), 1)))
(3, 'a', ('ref', (), 1), ('pid', (1,)), ('tuple',), ('map',), ('list',), ('odd', 1, 2), ('list', 1), ('bytes',))
"""

SECTION_5 = r"""
>>> from arrivalmill.termtext import term_text
>>> [term_text(("tuple", "ok", "EXIT", "end", ("odd", -1, "c"))), term_text(("fun", "m", 0, 1, 3, ("a",))), term_text(("map", (1, ("bytes", 0, 255))))]
["{ok,'EXIT','end',[-1|c]}", 'fun m:0/1@3[a]', '#{1=><<0,255>>}']
"""

SECTION_6 = r"""
>>> from arrivalmill.reading import read_expression
>>> from arrivalmill.scopes import bound_behind
>>> bound_behind(read_expression('case X of {a, Y} -> Y; _ -> Z = 1, Z end'), ('X',))
(('X',), ('Y', 'Z'))
"""

SECTION_8 = r"""
>>> from arrivalmill.reading import Module
>>> from arrivalmill.plain import worth
>>> one = Module('-module(one). -export([go/1]). go(X) -> try div_by(X) of N -> {ok, N} catch error:R -> R end. div_by(X) -> 7 div X.')
>>> [worth((one,), 'one', 'go', (n,)) for n in (2, 0)]
[('value', ('tuple', 'ok', 3)), ('value', 'badarith')]
"""

SECTION_10 = r"""
>>> from arrivalmill.exits import acts, come, ended
>>> from arrivalmill.ties import born, tie, untie
>>> one, two = ('pid', ()), ('pid', (1,))
>>> keeps, sent = untie(born(two, one, 'tied', None), one)
>>> [keeps[2], sent, come(keeps, one, ('exit', 'boom', True, 0))[1], tie(keeps, one)[1]]
[((('pid', ()), (False, 1, 0)),), ((('pid', ()), ('untie',)),), None, ((('pid', ()), ('tie', 0)),)]
>>> [acts(True, two, one, 'kill', False), acts(False, two, one, 'normal', True), ended(born(two, one, 'tied', None), 'boom')]
[('ends', 'killed'), ('nothing',), ((('pid', ()), ('exit', 'boom', True, 0)),)]
"""

SECTION_11 = r"""
>>> from arrivalmill.boxes import Box, taken
>>> from arrivalmill.reading import read_expression
>>> clauses = read_expression('receive {X, Y} when Y > 1 -> Y; stop -> 0 end')[1]
>>> two, three = ('tuple', 'a', 2), ('tuple', 'b', 3)
>>> taken(Box(('go', three, two)), clauses, (('X', 'a'),))
(2, 0, (('X', 'a'), ('Y', 2)))
"""

SECTION_14 = r"""
>>> from arrivalmill.heads import Heads, clause_taken, fitting
>>> from arrivalmill.questions import settled
>>> x, any_one = ('name', 'X'), ('any',)
>>> pair = Heads((((('tuple', (x, x)),), (), ()), ((('cons', ('number', 1), any_one),), (), ()), ((any_one,), ('test',), ())), ())
>>> [fitting(pair, (('tuple', 2, 2),), ()), clause_taken(pair, (('list', 1, 5),), (), ()), clause_taken(pair, (7,), (), (2,))]
[(0, 2), (1, ()), None]
>>> settled(1, (), (((0,), ('is', 1), False),), (0,), ('is', 2))
'open'
"""

SECTION_15 = r"""
>>> from arrivalmill.rows import Code, live, ways, words_wanted
>>> swap = Code('code m\nentry swap 1 0\nexport swap 1\nlabel 0\nsize 1 x0 2\npart x0 0 x1\npart x0 1 x2\nroom 3 3\ntuple x0 x2 x1\nreturn\nlabel 1\nfail function_clause')
>>> [ways(swap, 1), live(swap, 4), words_wanted(swap, 4)]
[(2, 7), ('x1', 'x2'), 3]
"""

SECTION_18 = r"""
>>> from arrivalmill.heaps import Heap
>>> from arrivalmill.words import flat_words
>>> [flat_words(one) for one in (7, 2 ** 59, ('map', ('k', ('list', 5))), ('bytes', 1, 2))]
[0, 2, 5, 2]
>>> heap = Heap(12)
>>> one = heap.put(('list', 1, 2))
>>> two = heap.make('tuple', (one, one))
>>> [one, two, heap.young, heap.flat(two), heap.ask(6, (one,)), heap.free, heap.ask(9, (one,)), heap.age(one), heap.greaters]
[('cell', 2), ('cell', 3), 7, 11, None, 8, None, 'elder', 0]
"""

SECTION_20 = r"""
>>> from arrivalmill.supervisors import shape
>>> from arrivalmill.termtext import read_term
>>> plan = read_term("{rest,1,5,[{a,always,kill,{worker,m,f}},{b,faults,3,{worker,m,f}},{c,never,3,{worker,m,f}}]}")
>>> shape(plan, ((2, ("b",), "bad"),))[0][4:]
(('end', 2, ('b',), 'bad'), ('end', 2, ('c',), 'shutdown'), ('struck', 2, ('c',)), ('begin', 2, ('b',)))
"""

SECTION_22 = r"""
>>> from arrivalmill.desk import Desk
>>> from arrivalmill.reading import Module
>>> from arrivalmill.weavings import System
>>> desk = Desk(System((Module("-module(m). -export([f/0]). f() -> self() ! hallo, receive X -> X end."),), ('m', 'f', ())))
>>> [desk.step(('go', ())) for lap in range(4)][1:], desk.first(('look', (), 'receive'))
([('send', ('pid', ()), 'hallo'), ('receive', 'hallo'), ('end', 'normal')], 3)
"""

EXAMPLES = (
    (4, SECTION_4),
    (5, SECTION_5),
    (6, SECTION_6),
    (8, SECTION_8),
    (10, SECTION_10),
    (11, SECTION_11),
    (14, SECTION_14),
    (15, SECTION_15),
    (18, SECTION_18),
    (20, SECTION_20),
    (22, SECTION_22),
)


class Examples(unittest.TestCase):
    def test_all(self):
        for number, text in EXAMPLES:
            test = doctest.DocTestParser().get_doctest(text, {}, "section " + str(number), None, 0)
            runner = doctest.DocTestRunner()
            runner.run(test)
            self.assertEqual(0, runner.summarize().failed, number)
            self.assertTrue(runner.tries)

    def test_they_are_those_of_the_document(self):
        if not os.path.exists(DOC):
            self.skipTest("the document is not here")
        with open(DOC, encoding="utf-8") as file:
            found = re.findall(r"```\n(>>>.*?)```", file.read(), re.S)
        self.assertEqual([text.strip() for text in found], [text.strip() for _, text in EXAMPLES])


if __name__ == "__main__":
    unittest.main()
