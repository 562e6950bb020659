"""The examples of the document, as they stand there, and those of README.md."""

import doctest
import unittest
from pathlib import Path

POINT_4 = """
>>> from rulerkeep.ranks import rank, ranked, youngest
>>> [rank(12), rank(7), rank(0), youngest(13, 1), youngest(3, 2), ranked(1, 16, 1)]
[2, 0, None, 10, None, 4]
"""

POINT_5_RULE = """
>>> from rulerkeep.rules import Rule
>>> rule = Rule(0, 2, 8)
>>> [rule[1], rule[9], len(Rule(2, 2)), rule(0), rule(4), rule(5), (0, 7) in rule, (2, 7) in rule]
[2, 8, 1, 1, 3, None, True, False]
"""

POINT_5_OPERATORS = """
>>> from rulerkeep.rules import Rule
>>> one, other = Rule(0, 2, 8), Rule(1, 1, 9)
>>> [(one | other).lives, (one & other).lives, (one + 1).lives, Rule(0, 2) <= one, one <= other, Rule(0, None).lives]
[(1, 2, 9), (0, 1, 8), (1, 3, 9), True, False, (0, None)]
"""


class Examples(unittest.TestCase):
    def check(self, text):
        test = doctest.DocTestParser().get_doctest(text, {}, self.id(), None, 0)
        told = []
        results = doctest.DocTestRunner().run(test, out=told.append)
        self.assertGreater(results.attempted, 0)
        self.assertEqual(results.failed, 0, ''.join(told))

    def test_point_4(self):
        self.check(POINT_4)

    def test_point_5_rule(self):
        self.check(POINT_5_RULE)

    def test_point_5_operators(self):
        self.check(POINT_5_OPERATORS)

    def test_readme(self):
        readme = Path(__file__).resolve().parent.parent / 'README.md'
        self.check(readme.read_text().replace('```', ''))


if __name__ == '__main__':
    unittest.main()
