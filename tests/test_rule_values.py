"""rules.py, point [5]: any value as lives, as a rank and as a point at a tick."""

import copy
import unittest

from rulerkeep.errors import BadLives, BadRank
from rulerkeep.rules import Rule
from tests.plain import NOT_NATURAL

MOST = 10 ** 18

GOOD_LIVES = (
    (0,), (None,), (0, 0), (0, 2, 8), (2, 2), (0, None), (0, 0, None), (MOST,), (0, MOST, None), (MOST, MOST),
    (0,) * 61, tuple(range(61)), tuple(range(60)) + (None,),
)

BAD_TUPLES = (
    (), (MOST + 1,), (10 ** 19,), (0, MOST + 1), (0, MOST + 1, None), (-1,), (-1, 0), (0, -1), (-10 ** 19, 0), (2, 1),
    (0, 5, 4), (9, 8, None), (None, None), (None, 0), (0, None, 5), (0, None, None), (True,), (False,), (0, True),
    (False, None), ('0',), ('',), (0, '2'), ('a', 'b'), ((0,),), (0, (2,)), ([0],), ([],), ({},), ({0: 1}, 2),
    (0, [2], None), (0,) * 62, tuple(range(62)), (0,) * 61 + (None,), (2,) * 62, (0,) * 1000,
) + tuple([(value,) for value in NOT_NATURAL if value is not None])

BAD_LIVES = BAD_TUPLES + tuple([value for value in NOT_NATURAL if not isinstance(value, tuple)]) + (
    0, 1, MOST, 10 ** 19, [0], [0, 2, 8], [None], '0 2 8', {0: 0, 1: 2}, ((0, 2),), [(0, 2)],
)

BAD_PAIRS = tuple([(point, 5) for point in NOT_NATURAL]) + tuple([(0, tick) for tick in NOT_NATURAL]) + (
    0, 5, [0, 5], (0,), (0, 5, 5), ((0, 5),), [(0, 5)], (None, None), (True, True), (False, 5), (0, True), (0, '5'),
    '05', {0: 5}, (-1, 5), (5, -1), (-5, -1), (-10 ** 19, 10 ** 19),
)


class AnyLives(unittest.TestCase):
    def test_lives(self):
        for value in GOOD_LIVES:
            with self.subTest(value):
                self.assertIs(Rule.are_lives(value), True)
                self.assertIs(Rule.are_lives(value=value), True)
                self.assertIs(Rule(1).are_lives(value), True)
                self.assertEqual(Rule.of(value), Rule(*value))
                self.assertEqual(Rule.of(lives=value), Rule(*value))
                self.assertIsInstance(Rule.of(value), Rule)

    def test_of_leaves_equal_lives_out(self):
        self.assertEqual(Rule.of((0, 2, 2)).lives, (0, 2))

    def test_no_lives(self):
        for value in BAD_LIVES:
            with self.subTest(value):
                before = copy.deepcopy(value)
                self.assertIs(Rule.are_lives(value), False)
                with self.assertRaises(BadLives) as caught:
                    Rule.of(value)
                self.assertIs(caught.exception.value, value)
                self.assertEqual(value, before)

    def test_a_rule_of_no_lives(self):
        for values in BAD_TUPLES:
            with self.subTest(values):
                before = copy.deepcopy(values)
                with self.assertRaises(BadLives) as caught:
                    Rule(*values)
                held = caught.exception.value
                self.assertIsInstance(held, tuple)
                self.assertEqual(len(held), len(values))
                self.assertTrue(all([one is other for one, other in zip(held, values)]))
                self.assertEqual(values, before)

    def test_a_tuple_alone_is_no_life(self):
        with self.assertRaises(BadLives) as caught:
            Rule((0, 2))
        self.assertEqual(caught.exception.value, ((0, 2),))


class AnyRank(unittest.TestCase):
    def test_no_rank(self):
        for rule in (Rule(0, 2, 8), Rule(0), Rule(None), Rule(3) + MOST):
            for value in NOT_NATURAL + ((1, 2), '1'):
                with self.subTest(str(value)):
                    before = copy.deepcopy(value)
                    with self.assertRaises(BadRank) as caught:
                        rule[value]
                    self.assertIs(caught.exception.value, value)
                    self.assertEqual(value, before)

    def test_a_rule_stays_as_it_was(self):
        rule = Rule(0, 2, 8)
        self.assertRaises(BadRank, lambda: rule[-1])
        self.assertEqual(rule.lives, (0, 2, 8))


class AnyPointAndTick(unittest.TestCase):
    def test_no_point_and_tick(self):
        for rule in (Rule(None), Rule(0, 9), Rule(0)):
            for value in BAD_PAIRS + NOT_NATURAL:
                with self.subTest(str(value)):
                    before = copy.deepcopy(value)
                    self.assertIs(value in rule, False)
                    self.assertEqual(value, before)

    def test_values_of_10_to_the_19th(self):
        self.assertIs((10 ** 19, 10 ** 19) in Rule(1), True)
        self.assertIs((10 ** 19 - 1, 10 ** 19) in Rule(1), False)


if __name__ == '__main__':
    unittest.main()
