"""The least rules of a wish, and the cheapest one: point [9], and [3] (c)."""

import random
import unittest
from fractions import Fraction
from itertools import combinations, combinations_with_replacement

from rulerkeep.averages import average
from rulerkeep.errors import KeepError, TooMany, TooWide
from rulerkeep.rules import Rule
from rulerkeep.wishes import cheapest, least_lives, meets
from tests import great, plain
from tests.great import TWELVE, great_rule, great_wish

# Those with a last distance of 3 have least rules of up to three lives, the others of up to two.
WISHES = [
    tuple(zip(ages, distances))
    for many in (1, 2, 3)
    for ages in combinations(range(4), many)
    for distances in combinations((0, 1, 2, 3), many)
]


def small_rules(wish):
    """All lives that are no longer and no more than any least rule of a wish has."""
    most_lives = max([at for at in range(9) if 2 ** at - 1 <= wish[-1][1]]) + 1
    found = []
    for many in range(1, most_lives + 1):
        found += combinations_with_replacement(range(wish[-1][0] + 2 ** (most_lives - 1) + 1), many)
    return [lives for lives in found if Rule(*lives).lives == lives]


def is_least(lives, wish):
    """Whether no life of a rule that meets a wish can be shortened, that of its last rank also without those beyond."""
    lives = lives + (lives[-1],)
    for at in range(len(lives) - 1):
        lower = 0 if at == 0 else lives[at - 1]
        if lives[at] > lower and reached(lives[:at] + (lives[at] - 1,) + lives[at + 1:], wish):
            return False
    return reached(lives, wish)


def reached(lives, wish):
    """Whether lives meet a wish, at the last age of each step, by [3] (a) and (c)."""
    return all([
        any([life >= age + 2 ** at for at, life in enumerate(lives) if 2 ** at - 1 <= limit]) for age, limit in wish
    ])


class Least(unittest.TestCase):
    def test_against_all_small_rules(self):
        for wish in WISHES:
            ages = range(wish[-1][0] + 1)
            meeting = [
                lives for lives in small_rules(wish)
                if all([not plain.worse(Rule(*lives)(age), plain.wished(wish, age)) for age in ages])
            ]
            least = [
                lives for lives in meeting
                if not any([other != lives and plain.below(other, lives) for other in meeting])
            ]
            self.assertEqual(least_lives(wish), tuple(sorted(least)), wish)

    def test_all_rules_that_meet_are_above_a_least_one(self):
        for wish in WISHES[::5]:
            least = [Rule(*lives) for lives in least_lives(wish)]
            for lives in plain.all_lives(3, 8):
                above = any([one <= Rule(*lives) for one in least])
                self.assertIs(meets(Rule(*lives), wish), above, (wish, lives))
                if wish[-1][0] < 2:
                    self.assertIs(plain.meets(lives, wish), above, (wish, lives))

    def test_against_all_ways_to_meet_each_step(self):
        chance = random.Random(92)
        for many, widest in ((1, 63), (2, 63), (3, 63), (3, 20), (4, 63), (4, 63), (4, 15)):
            ages = sorted(chance.sample(range(chance.choice((6, 40, 10 ** 18))), many))
            distances = sorted(chance.sample(range(widest), many - 1)) + [widest]
            wish = tuple(zip(ages, distances))
            plans = {Rule.of(lives).lives for lives in great.all_plans(wish)}
            least = sorted([lives for lives in plans if is_least(lives, wish)])
            self.assertEqual(least_lives(wish), tuple(least), wish)
            self.assertGreater(len(least), 1)

    def test_named_edges(self):
        self.assertEqual(least_lives(((0, 0),)), ((1,),))
        self.assertEqual(least_lives(((0, 1),)), ((0, 2), (1,)))
        self.assertEqual(least_lives(((0, 2),)), ((0, 2), (1,)))
        self.assertEqual(least_lives(((0, 3),)), ((0, 0, 4), (0, 2), (1,)))
        self.assertEqual(least_lives(((7, 0),)), ((8,),))
        self.assertEqual(len(least_lives(((0, 63),))), 7)
        self.assertEqual(least_lives(((10 ** 18, 1),)), ((0, 10 ** 18 + 2), (10 ** 18 + 1,)))

    def test_many_steps(self):
        for many in (5, 6, 12):
            wish = tuple((at, at) for at in range(many))
            with self.assertRaises(TooMany) as told:
                least_lives(wish)
            self.assertEqual(told.exception.value, many)
        self.assertIn((0, 0, 6), least_lives(((0, 0 + 3), (1, 4), (2, 5))))
        self.assertTrue(least_lives(((0, 0), (1, 1), (2, 2), (3, 3))))
        self.assertTrue(least_lives(((0, 60), (1, 61), (2, 62), (3, 63))))

    def test_a_great_last_distance(self):
        for limit in (64, 65, 127, 10 ** 18):
            for wish in (((0, limit),), ((0, 0), (1, limit)), ((0, 0), (1, 1), (2, 2), (3, limit))):
                with self.assertRaises(TooWide) as told:
                    least_lives(wish)
                self.assertEqual(told.exception.value, limit)
        self.assertEqual(len(least_lives(((0, 0), (1, 63)))), 7)

    def test_too_many_steps_come_first(self):
        with self.assertRaises(KeepError) as told:
            least_lives(((0, 0), (1, 1), (2, 2), (3, 3), (4, 64)))
        self.assertIsInstance(told.exception, TooMany)
        self.assertEqual(told.exception.value, 5)
        with self.assertRaises(TooMany) as told:
            least_lives(TWELVE)
        self.assertEqual(told.exception.value, 12)


class Cheapest(unittest.TestCase):
    def test_against_all_small_rules(self):
        for wish in WISHES:
            rule = cheapest(wish)
            self.assertIsInstance(rule, Rule)
            self.assertIs(meets(rule, wish), True)
            if wish[-1][0] < 2:
                self.assertTrue(plain.meets(rule.lives, wish))
            averages = [great.average(lives) for lives in small_rules(wish) if reached(lives, wish)]
            self.assertEqual(Fraction(*average(rule)), min(averages), wish)

    def test_against_the_least_rules(self):
        chance = random.Random(93)
        for _ in range(60):
            many = chance.randrange(1, 5)
            ages = sorted(chance.sample(range(chance.choice((10, 100, 10 ** 6, 10 ** 18))), many))
            wish = tuple(zip(ages, sorted(chance.sample(range(64), many))))
            rule = cheapest(wish)
            self.assertIs(meets(rule, wish), True)
            best = min([great.average(lives) for lives in least_lives(wish)])
            self.assertEqual(Fraction(*average(rule)), best, wish)

    def test_against_all_ways_to_meet_each_step(self):
        chance = random.Random(94)
        wishes = [great_wish(chance, many) for many in (1, 1, 2, 2, 2)]
        wishes += [
            ((10 ** 3, 5), (10 ** 5, 700), (10 ** 7, 9 * 10 ** 4)), ((0, 2), (10, 30), (10 ** 4, 100), (10 ** 5, 500)),
            ((10 ** 17, 10 ** 18 - 1), (10 ** 18, 10 ** 18)), ((5, 0), (10 ** 18, 10 ** 18)), ((10 ** 18, 10 ** 18),),
        ]
        for wish in wishes:
            rule = cheapest(wish)
            self.assertTrue(reached(rule.lives, wish), wish)
            best = min([great.average(plan) for plan in great.all_plans(wish)])
            self.assertEqual(Fraction(*average(rule)), best, wish)

    def test_one_step_is_met_by_its_greatest_rank(self):
        # A greater rank takes a longer life, but its points are fewer by more than that.
        self.assertEqual(cheapest(((0, 0),)).lives, (1,))
        self.assertEqual(cheapest(((5, 0),)).lives, (6,))
        self.assertEqual(cheapest(((5, 3),)).lives, (0, 0, 9))
        self.assertEqual(cheapest(((10 ** 18, 10 ** 18),)).lives, (0,) * 59 + (10 ** 18 + 2 ** 59,))
        self.assertEqual(average(cheapest(((0, 10 ** 18),))), (1, 1))

    def test_twelve_steps(self):
        rule = cheapest(TWELVE)
        self.assertIs(meets(rule, TWELVE), True)
        self.assertEqual(rule.lives, (0,) * 59 + (10 ** 18 + 2 ** 59,))
        chance = random.Random(95)
        for _ in range(10):
            wish = great_wish(chance, 12)
            rule = cheapest(wish)
            self.assertIs(meets(rule, wish), True)
            self.assertTrue(reached(rule.lives, wish))
            mine = Fraction(*average(rule))
            for plan in self.some_plans(chance, wish):
                self.assertLessEqual(mine, great.average(plan), wish)

    def some_plans(self, chance, wish):
        """Lives that meet a wish of many steps: each step at its greatest rank, and at random ranks."""
        widest = [max([at for at in range(61) if 2 ** at - 1 <= limit]) for _, limit in wish]
        for turn in range(100):
            chosen = [at if turn == 0 else max(0, at - chance.randrange(1, 2 + turn // 5)) for at in widest]
            if turn % 2:
                chosen = [at if chance.randrange(3) else max(0, at - 1) for at in widest]
            yield [
                max([age + 2 ** its for (age, _), its in zip(wish, chosen) if its <= at], default=0)
                for at in range(max(chosen) + 1)
            ]

    def test_no_rule_that_meets_has_a_lesser_average(self):
        chance = random.Random(96)
        met = 0
        for _ in range(300):
            rule, wish = great_rule(chance), great_wish(chance, chance.choice((1, 2, 3)))
            if average(rule) is not None and meets(rule, wish):
                met += 1
                self.assertLessEqual(Fraction(*average(cheapest(wish))), Fraction(*average(rule)))
        self.assertGreater(met, 20)

    def test_its_result_goes_on(self):
        rule = cheapest(((10 ** 18, 10 ** 18),))
        self.assertEqual((rule | rule).lives, rule.lives)
        self.assertEqual(rule(10 ** 18), 2 ** 59 - 1)
        self.assertIs(meets(rule, ((10 ** 18, 10 ** 18),)), True)

    def test_arguments_by_name(self):
        wish = ((0, 1), (1, 3))
        self.assertEqual(cheapest(wish=wish).lives, (0, 3))
        self.assertEqual(least_lives(wish=wish), ((0, 2, 5), (0, 3), (1, 1, 5), (2,)))


if __name__ == '__main__':
    unittest.main()
