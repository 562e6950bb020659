"""The examples of the document, as they stand there, and those of README.md."""

import doctest
import unittest
from pathlib import Path

POINT_4 = """
>>> from rulerkeep.ranks import rank, ranked, youngest
>>> [rank(12), rank(7), rank(0), youngest(13, 1), youngest(3, 2), ranked(1, 16, 1)]
[2, 0, None, 10, None, 4]
"""

POINT_5_RULE = """
>>> from rulerkeep.rules import Rule
>>> rule = Rule(0, 2, 8)
>>> [rule[1], rule[9], len(Rule(2, 2)), rule(0), rule(4), rule(5), (0, 7) in rule, (2, 7) in rule]
[2, 8, 1, 1, 3, None, True, False]
"""

POINT_5_OPERATORS = """
>>> from rulerkeep.rules import Rule
>>> one, other = Rule(0, 2, 8), Rule(1, 1, 9)
>>> [(one | other).lives, (one & other).lives, (one + 1).lives, Rule(0, 2) <= one, one <= other, Rule(0, None).lives]
[(1, 2, 9), (0, 1, 8), (1, 3, 9), True, False, (0, None)]
"""

POINT_6 = """
>>> from rulerkeep.points import distance, kept, kept_between, kept_count, restore_point
>>> from rulerkeep.rules import Rule
>>> rule = Rule(0, 2, 8)
>>> [list(kept(rule, 7)), kept_count(rule, 7), kept_between(rule, 7, 1, 6), restore_point(rule, 7, 2), distance(rule, 7, 2), distance(rule, 4, 1), restore_point(rule, 8, 5)]
[[0, 4, 6], 3, 2, 4, 1, 3, None]
"""

POINT_7 = """
>>> from rulerkeep.worst import promised, worst, worst_tick
>>> from rulerkeep.rules import Rule
>>> rule = Rule(0, 2, 8)
>>> [worst(rule, 1), worst_tick(rule, 1), worst(rule, 5), promised(rule), promised(Rule(0, None)), promised(Rule(0))]
[3, 4, None, ((0, 1), (4, 3)), ((None, 1),), ()]
"""

POINT_8 = """
>>> from rulerkeep.averages import average, most
>>> from rulerkeep.rules import Rule
>>> [average(Rule(0, 2, 8)), average(Rule(0, 3)), average(Rule(0, None)), most(Rule(0, 2, 8))[0]]
[(5, 2), (3, 2), None, 3]
"""

POINT_9 = """
>>> from rulerkeep.wishes import cheapest, first_broken, least_lives, meets, shows_broken
>>> from rulerkeep.rules import Rule
>>> wish = ((0, 1), (1, 3))
>>> [meets(Rule(0, 3), wish), first_broken(Rule(0, 2), wish)[0], shows_broken(Rule(0, 2), wish, (1, 2)), least_lives(wish), cheapest(wish).lives]
[True, 1, True, ((0, 2, 5), (0, 3), (1, 1, 5), (2,)), (0, 3)]
"""

POINT_10 = """
>>> from rulerkeep.changes import after_changes, changed, settled
>>> from rulerkeep.rules import Rule
>>> old, new = Rule(0, 2, 8), Rule(4, 4, 8)
>>> [changed(old, new, 1).lives, settled(old, new), settled(Rule(2), Rule(None)), after_changes(Rule(8), (Rule(2), 3), (Rule(6), 1)).lives]
[(1, 3, 8), 4, None, (3,)]
"""

POINT_11 = """
>>> from rulerkeep.rules import Rule
>>> from rulerkeep.store import Store, tried
>>> store = Store(Rule(0, 2, 8), tick=7)
>>> [store.points(), store.restore(2), tried(store, lambda held: held.lose(4)), store.lose(4), store.restore(2), store.distance(2), store.advance(1), store.points(), store.restore(1)]
[(0, 4, 6), 4, None, None, 0, 5, None, (8,), None]
"""

POINT_12 = """
>>> from rulerkeep.rules import Rule
>>> from rulerkeep.texts import read_rule, read_wish, show_rule, show_wish
>>> [show_rule(Rule(0, 8, None)), read_rule('0 2 2').lives, show_wish(((0, 1), (9, 3))), read_wish('5:0')]
['0 8 -', (0, 2), '0:1 9:3', ((5, 0),)]
"""

POINT_13 = """
>>> from rulerkeep.session import Session
>>> session = Session('0 2 8')
>>> [session.say('advance 7'), session.say('points'), session.say('distance 2'), session.say('worst 1'), session.say('wish 0:1 9:3'), session.say('average'), session.say('cheapest 0:1 9:3'), session.say('points')]
['ok', '0 4 6', '1', '3', 'broken 5', '5/2', '0 2 13', '0 4 6']
"""


class Examples(unittest.TestCase):
    def check(self, text):
        test = doctest.DocTestParser().get_doctest(text, {}, self.id(), None, 0)
        told = []
        results = doctest.DocTestRunner().run(test, out=told.append)
        self.assertGreater(results.attempted, 0)
        self.assertEqual(results.failed, 0, ''.join(told))

    def test_point_4(self):
        self.check(POINT_4)

    def test_point_5_rule(self):
        self.check(POINT_5_RULE)

    def test_point_5_operators(self):
        self.check(POINT_5_OPERATORS)

    def test_point_6(self):
        self.check(POINT_6)

    def test_point_7(self):
        self.check(POINT_7)

    def test_point_8(self):
        self.check(POINT_8)

    def test_point_9(self):
        self.check(POINT_9)

    def test_point_10(self):
        self.check(POINT_10)

    def test_point_11(self):
        self.check(POINT_11)

    def test_point_12(self):
        self.check(POINT_12)

    def test_point_13(self):
        self.check(POINT_13)

    def test_readme(self):
        readme = Path(__file__).resolve().parent.parent / 'README.md'
        self.check(readme.read_text().replace('```', ''))


if __name__ == '__main__':
    unittest.main()
