"""Averages and the greatest numbers of points: point [8], and [3] (b)."""

import random
import unittest
from fractions import Fraction

from rulerkeep.averages import average, most
from rulerkeep.points import kept_count
from rulerkeep.rules import Rule
from tests import great, plain

SMALL = [lives for lives in plain.all_lives(3, 7) if lives[-1] is not None]
LONGER = [(0, 0, 0, 3), (1, 2, 3, 14), (0, 1, 1, 1, 17), (2, 4, 8, 16, 32), (0, 3, 5, 11, 11, 20), (1, 1, 7, 9, 13, 40)]


def random_lives(chance, many, digits):
    return tuple(sorted([chance.randrange(10 ** chance.randrange(1, digits + 1)) for _ in range(many)]))


class Average(unittest.TestCase):
    def test_against_all_ticks(self):
        for lives in SMALL + LONGER:
            expected = plain.average(Rule(*lives).lives)
            self.assertEqual(average(Rule(*lives)), (expected.numerator, expected.denominator), lives)

    def test_any_ticks_from_the_last_life_on(self):
        for lives in LONGER:
            rule = Rule(*lives)
            points, ticks = average(rule)
            period = 2 ** (len(rule) - 1)
            for start in range(lives[-1], lives[-1] + 20):
                many = sum([kept_count(rule, tick) for tick in range(start, start + period)])
                self.assertEqual(many * ticks, points * period)

    def test_lowest_terms(self):
        self.assertEqual(average(Rule(0)), (0, 1))
        self.assertEqual(average(Rule(0, 2)), (1, 1))
        self.assertEqual(average(Rule(0, 2, 8)), (5, 2))
        self.assertEqual(average(Rule(10 ** 18)), (10 ** 18, 1))
        self.assertEqual(average(Rule(*[0] * 60, 1)), (1, 2 ** 60))
        self.assertEqual(average(Rule(*[0] * 60, 10 ** 18)), (10 ** 18 // 2 ** 18, 2 ** 42))

    def test_a_last_life_of_none(self):
        for lives in ((None,), (0, None), (5, None), tuple([10 ** 18] * 60) + (None,)):
            self.assertIsNone(average(Rule(*lives)))
            self.assertIsNone(most(Rule(*lives)))

    def test_great_numbers(self):
        chance = random.Random(81)
        for many in [1, 2, 3, 10, 40] + [61] * 20:
            rule = Rule(*random_lives(chance, many, 18))
            for one in (rule, rule + 10 ** 18, rule | Rule(10 ** 17), rule & Rule(10 ** 9)):
                expected = great.average(one.lives)
                self.assertEqual(average(one), (expected.numerator, expected.denominator))

    def test_great_lives_over_all_ticks(self):
        chance = random.Random(82)
        for many in (1, 2, 5, 8):
            rule = Rule(*random_lives(chance, many, 18))
            period = 2 ** (many - 1)
            points = sum([kept_count(rule, tick) for tick in range(10 ** 18, 10 ** 18 + period)])
            self.assertEqual(Fraction(*average(rule)), Fraction(points, period))


class Most(unittest.TestCase):
    def check(self, rule, counts):
        count, tick = most(rule)
        self.assertEqual(count, max(counts), rule.lives)
        self.assertGreaterEqual(tick, 0)
        self.assertEqual(kept_count(rule, tick), count, rule.lives)

    def test_against_all_ticks(self):
        for lives in SMALL + LONGER:
            ticks = range(lives[-1] + 2 ** len(lives))
            counts = [len(plain.kept(lives, tick)) for tick in ticks]
            self.check(Rule(*lives), counts)
            self.assertEqual(len(plain.kept(lives, most(Rule(*lives))[1])), max(counts))

    def test_against_all_ticks_of_longer_rules(self):
        chance = random.Random(83)
        for _ in range(300):
            many = chance.randrange(1, 10)
            rule = Rule(*random_lives(chance, many, chance.choice((1, 2, 3, 18))))
            start = rule.lives[-1]
            self.check(rule, [kept_count(rule, tick) for tick in range(start, start + 2 ** many)])

    def test_lives_of_0(self):
        count, tick = most(Rule(0))
        self.assertEqual(count, 0)
        self.assertGreaterEqual(tick, 0)

    def test_no_tick_has_more(self):
        chance = random.Random(84)
        for many in (20, 40, 61, 61, 61):
            rule = Rule(*random_lives(chance, many, 18))
            for one in (rule, rule + 10 ** 18):
                count, tick = most(one)
                self.assertEqual(kept_count(one, tick), count)
                self.assertEqual(great.count_between(one.lives, tick, 0, tick), count)
                self.assertGreaterEqual(count, Fraction(*average(one)))
                # The ticks just at a point and just behind the end of one are those that may be full.
                others = [chance.randrange(10 ** 19) for _ in range(200)]
                for at, life in enumerate(one.lives):
                    others += [life + chance.randrange(10 ** 5) * 2 ** at + more for more in (-1, 0, 1)]
                self.assertLessEqual(max([kept_count(one, other) for other in others if other >= 0]), count)

    def test_where_all_ranks_can_have_one_more_at_once(self):
        # Between two lives there are 2 ** at - 1 ticks, hence at most one point.
        rule = Rule(*[2 ** (at + 1) - 2 - at for at in range(58)])
        self.assertEqual(most(rule)[0], 57)
        self.check(rule, [57])
        chance = random.Random(85)
        for _ in range(100):
            # The lives are such that one tick, of 2 ** 57, has one more of each rank that can have one more.
            full = chance.randrange(2 ** 57)
            lives = [chance.randrange(100)]
            count = lives[0]
            for at in range(1, 58):
                step = 2 ** at
                before = (full - lives[-1]) % step
                more = 0 if before == step - 1 else chance.randrange(before + 1, step)
                steps = chance.randrange(3)
                lives.append(lives[-1] + steps * step + more)
                count += steps + (1 if more else 0)
            self.check(Rule(*lives), [count])

    def test_arguments_by_name(self):
        self.assertEqual(average(rule=Rule(0, 3)), (3, 2))
        self.assertEqual(most(rule=Rule(5))[0], 5)


if __name__ == '__main__':
    unittest.main()
