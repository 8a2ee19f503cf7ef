"""The worked examples of sections 10 to 14."""

import doctest
import unittest

SIGNALS = """
>>> from arrivalmill.exits import acts, come, ended
>>> from arrivalmill.ties import born, tie, untie
>>> one, two = ('pid', ()), ('pid', (1,))
>>> keeps, sent = untie(born(two, one, 'tied', None), one)
>>> [keeps[2], sent, come(keeps, one, ('exit', 'boom', True, 0))[1], tie(keeps, one)[1]]
[((('pid', ()), (False, 1, 0)),), ((('pid', ()), ('untie',)),), None, ((('pid', ()), ('tie', 0)),)]
>>> [acts(True, two, one, 'kill', False), acts(False, two, one, 'normal', True), ended(born(two, one, 'tied', None), 'boom')]
[('ends', 'killed'), ('nothing',), ((('pid', ()), ('exit', 'boom', True, 0)),)]
"""

BOXES = """
>>> from arrivalmill.boxes import Box, taken
>>> from arrivalmill.reading import read_expression
>>> clauses = read_expression('receive {X, Y} when Y > 1 -> Y; stop -> 0 end')[1]
>>> two, three = ('tuple', 'a', 2), ('tuple', 'b', 3)
>>> taken(Box(('go', three, two)), clauses, (('X', 'a'),))
(2, 0, (('X', 'a'), ('Y', 2)))
"""

HEADS = """
>>> from arrivalmill.heads import Heads, clause_taken, fitting
>>> from arrivalmill.questions import settled
>>> x, any_one = ('name', 'X'), ('any',)
>>> pair = Heads((((('tuple', (x, x)),), (), ()), ((('cons', ('number', 1), any_one),), (), ()), ((any_one,), ('test',), ())), ())
>>> [fitting(pair, (('tuple', 2, 2),), ()), clause_taken(pair, (('list', 1, 5),), (), ()), clause_taken(pair, (7,), (), (2,))]
[(0, 2), (1, ()), None]
>>> settled(1, (), (((0,), ('is', 1), False),), (0,), ('is', 2))
'open'
"""


class Examples(unittest.TestCase):
    def run_text(self, text):
        test = doctest.DocTestParser().get_doctest(text, {}, "example", None, 0)
        runner = doctest.DocTestRunner()
        runner.run(test)
        self.assertEqual(0, runner.summarize().failed)
        self.assertTrue(runner.tries)

    def test_section_10(self):
        self.run_text(SIGNALS)

    def test_section_11(self):
        self.run_text(BOXES)

    def test_section_14(self):
        self.run_text(HEADS)


if __name__ == "__main__":
    unittest.main()
