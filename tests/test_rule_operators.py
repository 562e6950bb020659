"""rules.py, point [5]: the rules that come out of rules, and their order."""

import unittest

from rulerkeep.errors import BadLives
from rulerkeep.rules import Rule
from tests.plain import all_lives, keeps, life

MOST = 10 ** 18
MANY = all_lives(3, 3) + [(0, 1, 1, 9), (1, 2, 4, 8), (0, 0, 0, 3), (0, 3, 6, None)]
RANKS = range(6)


def number(own):
    """None as something that is greater than all integers."""
    return (1, 0) if own is None else (0, own)


def is_shortest(lives):
    return len(lives) == 1 or lives[-1] != lives[-2]


class Joined(unittest.TestCase):
    def test_the_greater_life_at_each_rank(self):
        for one in MANY:
            for other in MANY:
                joined = Rule(*one) | Rule(*other)
                wanted = [max(life(one, at), life(other, at), key=number) for at in RANKS]
                self.assertEqual([joined[at] for at in RANKS], wanted, (one, other))
                self.assertTrue(is_shortest(joined.lives))

    def test_the_lesser_life_at_each_rank(self):
        for one in MANY:
            for other in MANY:
                both = Rule(*one) & Rule(*other)
                wanted = [min(life(one, at), life(other, at), key=number) for at in RANKS]
                self.assertEqual([both[at] for at in RANKS], wanted, (one, other))
                self.assertTrue(is_shortest(both.lives))

    def test_the_points_kept_by_one_and_by_both(self):
        pairs = (((0, 2, 8), (1, 1, 9)), ((4,), (0, 0, 0, 7)), ((0, None), (3, 5)), ((0,), (2, None)))
        for one, other in pairs:
            either, both = Rule(*one) | Rule(*other), Rule(*one) & Rule(*other)
            for tick in range(30):
                for point in range(tick + 1):
                    told = [keeps(one, point, tick), keeps(other, point, tick)]
                    self.assertEqual((point, tick) in either, any(told))
                    self.assertEqual((point, tick) in both, all(told))

    def test_unlike_lengths_and_none(self):
        self.assertEqual((Rule(5) | Rule(0, 2, 8)).lives, (5, 5, 8))
        self.assertEqual((Rule(0, 2, 8) | Rule(5)).lives, (5, 5, 8))
        self.assertEqual((Rule(5) & Rule(0, 2, 8)).lives, (0, 2, 5))
        self.assertEqual((Rule(None) | Rule(0, 2, 8)).lives, (None,))
        self.assertEqual((Rule(None) & Rule(0, 2, 8)).lives, (0, 2, 8))
        self.assertEqual((Rule(0, None) | Rule(3, 3, 3, 4)).lives, (3, None))
        self.assertEqual((Rule(0, None) & Rule(3, 3, 3, 4)).lives, (0, 3, 3, 4))
        self.assertEqual((Rule(0, None) & Rule(1, None)).lives, (0, None))

    def test_equal_lives_at_the_end_are_left_out(self):
        self.assertEqual((Rule(1, 2) | Rule(2)).lives, (2,))
        self.assertEqual((Rule(1, 2) & Rule(1)).lives, (1,))

    def test_61_lives(self):
        long = Rule(*range(61))
        self.assertEqual((long | Rule(30)).lives, (30,) * 31 + tuple(range(31, 61)))
        self.assertEqual((Rule(30) & long).lives, tuple(range(31)))

    def test_the_rules_themselves_stay(self):
        one, other = Rule(0, 2, 8), Rule(1, 1, 9)
        self.assertEqual([one | other, one & other, one + 4, one <= other][2], Rule(4, 6, 12))
        self.assertEqual([one.lives, other.lives], [(0, 2, 8), (1, 1, 9)])


class Longer(unittest.TestCase):
    def test_all_lives_are_longer(self):
        for lives in MANY:
            for ticks in (0, 1, 7, MOST):
                rule = Rule(*lives) + ticks
                wanted = [None if life(lives, at) is None else life(lives, at) + ticks for at in RANKS]
                self.assertEqual([rule[at] for at in RANKS], wanted)

    def test_none_stays(self):
        self.assertEqual([(Rule(None) + 5).lives, (Rule(0, None) + MOST).lives], [(None,), (MOST, None)])

    def test_0_ticks(self):
        self.assertEqual(Rule(0, 2, 8) + 0, Rule(0, 2, 8))

    def test_in_place(self):
        rule = kept = Rule(0, 2)
        rule += 3
        self.assertEqual([rule.lives, kept.lives], [(3, 5), (0, 2)])


class Order(unittest.TestCase):
    def test_at_no_rank_greater(self):
        for one in MANY:
            for other in MANY:
                wanted = all([number(life(one, at)) <= number(life(other, at)) for at in RANKS])
                self.assertIs(Rule(*one) <= Rule(*other), wanted, (one, other))

    def test_unlike_lengths_and_none(self):
        self.assertIs(Rule(2) <= Rule(2, 3), True)
        self.assertIs(Rule(2, 3) <= Rule(2), False)
        self.assertIs(Rule(0, None) <= Rule(5), False)
        self.assertIs(Rule(5) <= Rule(5, None), True)
        self.assertIs(Rule(None) <= Rule(None), True)
        self.assertIs(Rule(MOST) <= Rule(None), True)

    def test_neither_one_may_be_below_the_other(self):
        self.assertEqual([Rule(0, 9) <= Rule(1, 8), Rule(1, 8) <= Rule(0, 9)], [False, False])


class ResultsPassedInAgain(unittest.TestCase):
    def setUp(self):
        self.wide = Rule(0, MOST) + MOST

    def test_lives_above_the_limit(self):
        self.assertEqual(self.wide.lives, (MOST, 2 * MOST))
        self.assertEqual((self.wide + MOST + MOST).lives, (3 * MOST, 4 * MOST))
        self.assertEqual((Rule(1) + 10 ** 40).lives, (10 ** 40 + 1,))

    def test_operators(self):
        self.assertEqual((self.wide | Rule(MOST, MOST, None)).lives, (MOST, 2 * MOST, None))
        self.assertEqual((Rule(7) | self.wide).lives, (MOST, 2 * MOST))
        self.assertEqual((self.wide & Rule(None)).lives, (MOST, 2 * MOST))
        self.assertEqual((self.wide & Rule(7)).lives, (7,))
        self.assertEqual((self.wide & (self.wide + 1)), self.wide)
        self.assertEqual([self.wide <= self.wide + 1, self.wide + 1 <= self.wide], [True, False])
        self.assertEqual([self.wide <= Rule(MOST), Rule(MOST) <= self.wide], [False, True])

    def test_what_is_asked_of_one_rule(self):
        self.assertEqual([self.wide[0], self.wide[1], self.wide[2], len(self.wide)], [MOST, 2 * MOST, 2 * MOST, 2])
        self.assertIs(bool(self.wide), True)
        self.assertEqual([self.wide == Rule(0, MOST) + MOST, self.wide == Rule(MOST)], [True, False])
        self.assertEqual([self.wide(MOST - 1), self.wide(MOST), self.wide(2 * MOST - 2)], [0, 1, 1])
        self.assertIsNone(self.wide(2 * MOST - 1))
        self.assertEqual([(0, 2 * MOST - 1) in self.wide, (0, 2 * MOST) in self.wide], [True, False])
        self.assertEqual([(1, MOST) in self.wide, (1, MOST + 1) in self.wide], [True, False])

    def test_only_the_makers_of_rules_refuse_them(self):
        lives = self.wide.lives
        self.assertIs(Rule.are_lives(lives), False)
        for make in (lambda: Rule(*lives), lambda: Rule.of(lives)):
            with self.assertRaises(BadLives) as caught:
                make()
            self.assertEqual(caught.exception.value, (MOST, 2 * MOST))

    def test_wide_results_that_are_short_again(self):
        self.assertEqual(Rule.of((self.wide & Rule(0, 5)).lives), Rule(0, 5))


if __name__ == '__main__':
    unittest.main()
