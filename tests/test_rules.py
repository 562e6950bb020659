"""rules.py, point [5]: a rule's lives, and what is asked of one rule."""

import unittest

from rulerkeep.rules import Rule
from tests.plain import all_lives, distance, keeps, life, worst

MOST = 10 ** 18
MANY = all_lives(3, 5) + [(0, 1, 1, 9), (1, 2, 4, 8), (0, 0, 0, 3), (2, 2, 5, 5), (0, 3, 6, None), (0, 0, 0, 0)]


class Lives(unittest.TestCase):
    def test_ordinary_lives(self):
        for lives in ((0,), (5,), (0, 2, 8), (1, 2, 3, 4), (0, None), (None,), (0, 0, None), (3, 3, 4)):
            with self.subTest(lives):
                self.assertEqual(Rule(*lives).lives, lives)
                self.assertIsInstance(Rule(*lives).lives, tuple)

    def test_equal_lives_at_the_end_are_left_out(self):
        cases = (
            ((2, 2), (2,)), ((2, 2, 2), (2,)), ((1, 2, 2), (1, 2)), ((2, 2, 3), (2, 2, 3)), ((2, 2, 3, 3), (2, 2, 3)),
            ((0,) * 61, (0,)), ((MOST,) * 61, (MOST,)), ((4, 4, None), (4, 4, None)),
        )
        for given, shortest in cases:
            with self.subTest(given):
                self.assertEqual(Rule(*given).lives, shortest)
                self.assertEqual(len(Rule(*given)), len(shortest))

    def test_length(self):
        self.assertEqual([len(Rule(None)), len(Rule(0, 2, 8)), len(Rule(*range(61)))], [1, 3, 61])

    def test_greatest_life(self):
        self.assertEqual(Rule(0, MOST).lives, (0, MOST))

    def test_61_lives(self):
        self.assertEqual(Rule(*range(61)).lives, tuple(range(61)))
        self.assertEqual(Rule(*range(60), None)[60], None)

    def test_most_lives(self):
        self.assertEqual(Rule.MOST_LIVES, 61)
        self.assertEqual(Rule(1).MOST_LIVES, 61)

    def test_lives_cannot_be_assigned(self):
        rule = Rule(0, 2)
        with self.assertRaises(AttributeError):
            rule.lives = (1,)
        self.assertEqual(rule.lives, (0, 2))


class Equality(unittest.TestCase):
    def test_equal_if_and_only_if_the_lives_are(self):
        for one in MANY:
            for other in MANY:
                with self.subTest(one=one, other=other):
                    same = Rule(*one).lives == Rule(*other).lives
                    self.assertIs(Rule(*one) == Rule(*other), same)
                    self.assertIs(Rule(*one) != Rule(*other), not same)

    def test_lives_at_the_end(self):
        self.assertTrue(Rule(2, 2) == Rule(2))
        self.assertFalse(Rule(2, 2, 3) == Rule(2, 3))
        self.assertFalse(Rule(0, None) == Rule(0))
        self.assertFalse(Rule(0, 0, None) == Rule(0, None))

    def test_nothing_else_is_equal(self):
        for other in ((2,), [2], 2, '2', None, True, {2: 2}, ((2,),), object()):
            with self.subTest(str(other)):
                self.assertIs(Rule(2) == other, False)
                self.assertIs(other == Rule(2), False)


class LifeOfARank(unittest.TestCase):
    def test_ranks_of_many_rules(self):
        for lives in MANY:
            for at in range(8):
                self.assertEqual(Rule(*lives)[at], life(lives, at))

    def test_ranks_beyond_the_last_life(self):
        self.assertEqual([Rule(0, 2, 8)[at] for at in (2, 3, 61, MOST, 10 ** 30)], [8] * 5)
        self.assertIsNone(Rule(0, None)[MOST])
        self.assertEqual(Rule(7)[0], 7)


class Truth(unittest.TestCase):
    def test_whether_some_life_is_not_0(self):
        for lives in MANY:
            with self.subTest(lives):
                self.assertIs(bool(Rule(*lives)), any([own != 0 for own in lives]))

    def test_lives_of_0(self):
        self.assertEqual([bool(Rule(0)), bool(Rule(*[0] * 61)), bool(Rule(*[0] * 60, 1))], [False, False, True])
        self.assertEqual([bool(Rule(None)), bool(Rule(0, None))], [True, True])


class WorstDistance(unittest.TestCase):
    def test_all_ticks_of_many_rules(self):
        for lives in MANY:
            for age in range(9):
                with self.subTest(lives=lives, age=age):
                    self.assertEqual(Rule(*lives)(age), worst(lives, age))

    def test_first_and_last_age_of_a_distance(self):
        rule = Rule(3, 6, 12)
        self.assertEqual([rule(age) for age in range(10)], [0, 0, 0, 1, 1, 3, 3, 3, 3, None])

    def test_the_tick_that_the_guarantee_names(self):
        for lives in MANY:
            for age in range(6):
                found = Rule(*lives)(age)
                if found is not None:
                    self.assertEqual(distance(lives, age + found, age), found)

    def test_great_ages_and_lives(self):
        self.assertEqual([Rule(MOST)(MOST - 1), Rule(MOST)(MOST), Rule(0, MOST)(MOST - 2)], [0, None, 1])
        self.assertEqual([Rule(None)(MOST), Rule(0, None)(MOST), Rule(0)(MOST)], [0, 1, None])
        self.assertEqual(Rule(*[0] * 60, None)(MOST), 2 ** 60 - 1)
        self.assertEqual(Rule(*[0] * 59, MOST)(MOST - 2 ** 59), 2 ** 59 - 1)
        self.assertIsNone(Rule(*[0] * 59, MOST)(MOST - 2 ** 59 + 1))

    def test_argument_by_name(self):
        self.assertEqual(Rule(0, 2, 8)(age=4), 3)


class KeptPoints(unittest.TestCase):
    def test_all_points_of_many_rules(self):
        for lives in MANY:
            rule = Rule(*lives)
            for tick in range(18):
                for point in range(20):
                    self.assertIs((point, tick) in rule, keeps(lives, point, tick), (lives, point, tick))

    def test_the_point_0_has_the_last_life(self):
        rule = Rule(0, 2, 8)
        self.assertEqual([(0, 0) in rule, (0, 7) in rule, (0, 8) in rule], [True, True, False])
        self.assertTrue((0, MOST) in Rule(0, None))

    def test_a_life_of_0_keeps_nothing(self):
        self.assertFalse((1, 1) in Rule(0, 5))
        self.assertFalse((0, 0) in Rule(0))

    def test_ranks_beyond_the_last_life(self):
        self.assertEqual([(1024, 1031) in Rule(0, 8), (1024, 1032) in Rule(0, 8)], [True, False])

    def test_points_above_the_tick(self):
        self.assertEqual([(5, 4) in Rule(None), (5, 5) in Rule(None), (MOST, 0) in Rule(None)], [False, True, False])

    def test_great_points_and_ticks(self):
        rule = Rule(0, 1, MOST)
        self.assertEqual([(4, MOST) in rule, (0, MOST) in rule, (0, MOST - 1) in rule], [True, False, True])
        self.assertEqual([(MOST, MOST) in rule, (MOST - 1, MOST) in rule], [True, False])
        self.assertTrue((2 ** 59, MOST) in Rule(*[0] * 59, None))
        self.assertFalse((2 ** 58, MOST) in Rule(*[0] * 59, None))


class Walking(unittest.TestCase):
    def test_a_rule_is_not_walked(self):
        for rule in (Rule(0, 2), Rule(0), Rule(None)):
            with self.assertRaises(TypeError):
                for _ in rule:
                    pass
            self.assertRaises(TypeError, iter, rule)


if __name__ == '__main__':
    unittest.main()
