"""Worst distances: point [7], and [3] (a)."""

import copy
import random
import unittest

from rulerkeep.points import distance, restore_point
from rulerkeep.rules import Rule
from rulerkeep.worst import promised, shows_worst, worst, worst_tick
from tests import plain

SMALL = plain.all_lives(3, 6) + [(0, 0, 0, 3), (0, 0, 0, 12), (1, 2, 3, 14), (0, 0, 5, 5, None), (2, 4, 8, 16, 32)]


def great_rules():
    chance = random.Random(71)
    some = [Rule(*[0] * 60, 10 ** 18), Rule(*[0] * 60, None), Rule(*[2 ** at for at in range(60)]), Rule(10 ** 18)]
    some += [Rule(*[10 ** 18] * 60, None), Rule(*[10 ** 18 - 60 + at for at in range(61)]) + 10 ** 18]
    for many in (3, 20, 61, 61):
        lives = sorted([chance.randrange(10 ** chance.randrange(1, 19)) for _ in range(many)])
        some += [Rule(*lives), Rule(*lives[:-1], None), Rule(*lives) + 10 ** 18]
    return some


def great_ages(rule):
    """Ages everywhere, and those about which the worst distance may change."""
    ages = [0, 1, 10 ** 18, 10 ** 18 + 1, 2 * 10 ** 18] + [10 ** zeros for zeros in range(18)]
    for at, life in enumerate(rule.lives):
        if life is not None:
            ages += [age for age in range(life - 2 ** at - 1, life - 2 ** at + 3) if age >= 0]
    return ages


class Worst(unittest.TestCase):
    def test_worst_is_the_greatest_distance_of_all_ticks(self):
        for lives in SMALL:
            for age in range(16):
                expected = plain.worst(lives, age)
                self.assertEqual(worst(Rule(*lives), age), expected, (lives, age))
                self.assertEqual(Rule(*lives)(age), expected, (lives, age))

    def test_worst_tick_is_the_first_one(self):
        for lives in SMALL:
            for age in range(16):
                tick = worst_tick(Rule(*lives), age)
                expected = plain.worst(lives, age)
                self.assertGreaterEqual(tick, age)
                self.assertEqual(plain.distance(lives, tick, age), expected, (lives, age))
                if expected is not None:
                    first = [at for at, one in plain.distances(lives, age) if one == expected][0]
                    self.assertEqual(tick, first, (lives, age))

    def test_lives_of_0(self):
        for age in (0, 1, 10 ** 18):
            self.assertIsNone(worst(Rule(0), age))
            self.assertIsNone(distance(Rule(0), worst_tick(Rule(0), age), age))
        self.assertEqual(promised(Rule(0)), ())

    def test_great_numbers(self):
        chance = random.Random(72)
        for rule in great_rules():
            for age in great_ages(rule):
                found, tick = worst(rule, age), worst_tick(rule, age)
                self.assertGreaterEqual(tick, age)
                self.assertEqual(distance(rule, tick, age), found, (rule.lives, age))
                if found is not None:
                    self.assertEqual(tick, age + found)
                    for _ in range(3):
                        other = age + chance.randrange(10 ** chance.randrange(1, 20))
                        self.assertLessEqual(distance(rule, other, age), found, (rule.lives, age, other))

    def test_formula(self):
        for rule in great_rules():
            for age in great_ages(rule):
                found = [2 ** at - 1 for at, life in enumerate(rule.lives) if life is None or life >= age + 2 ** at]
                self.assertEqual(worst(rule, age), min(found, default=None))

    def test_arguments_by_name(self):
        rule = Rule(0, 2, 8)
        self.assertEqual([worst(age=1, rule=rule), worst_tick(age=1, rule=rule), promised(rule=rule)],
                         [3, 4, ((0, 1), (4, 3))])
        self.assertIs(shows_worst(value=4, age=1, rule=rule), True)


class ShowsWorst(unittest.TestCase):
    def test_at_all_ticks(self):
        for lives in plain.all_lives(3, 4) + SMALL[-4:]:
            rule = Rule(*lives)
            for age in (0, 1, 2, 3, 6):
                expected = plain.worst(lives, age)
                for tick in range(age, 30):
                    shown = plain.distance(lives, tick, age) == expected
                    self.assertIs(shows_worst(rule, age, tick), shown, (lives, age, tick))

    def test_ticks_before_the_age_show_nothing(self):
        for rule in (Rule(0), Rule(0, 2, 8), Rule(0, None)):
            for age in (1, 5, 10 ** 18):
                for tick in (0, age - 1, -1, -age, age - 2):
                    self.assertIs(shows_worst(rule, age, tick), False)

    def test_its_own_tick_shows_it(self):
        for rule in great_rules():
            for age in great_ages(rule):
                tick = worst_tick(rule, age)
                self.assertIs(shows_worst(rule, age, tick), True)
                if worst(rule, age):
                    self.assertIs(shows_worst(rule, age, tick - 1), False)

    def test_great_values(self):
        self.assertIs(shows_worst(Rule(0), 0, 10 ** 19), True)
        self.assertIs(shows_worst(Rule(0, 2), 0, 10 ** 19), False)
        self.assertIs(shows_worst(Rule(0, 2), 0, 10 ** 19 - 1), True)

    def test_any_value(self):
        # True and False would be right as 1 and 0: every tick shows it there.
        for rule in (Rule(0), Rule(1), Rule(0, 2, 8)):
            for age in (0, 1, 3):
                for value in plain.NOT_NATURAL:
                    held = copy.deepcopy(value)
                    self.assertIs(shows_worst(rule, age, value), False, value)
                    self.assertEqual(repr(value), repr(held))
        self.assertIs(shows_worst(Rule(1), 0, 0), True)
        self.assertIs(shows_worst(Rule(1), 0, 1), True)


class Promised(unittest.TestCase):
    def test_against_all_ages(self):
        for lives in SMALL:
            far = plain.longest(lives) + 2 * 2 ** len(lives)
            ages = {}
            for age in range(far + 1):
                ages[plain.worst(lives, age)] = age
            expected = [(None if age == far else age, found) for found, age in ages.items() if found is not None]
            self.assertEqual(promised(Rule(*lives)), tuple(expected), lives)

    def test_great_numbers(self):
        for rule in great_rules():
            found = promised(rule)
            self.assertIsInstance(found, tuple)
            start = 0
            for age, one in found:
                self.assertEqual(worst(rule, start), one)
                if age is not None:
                    self.assertEqual(worst(rule, age), one)
                    self.assertNotEqual(worst(rule, age + 1), one)
                    start = age + 1
            if found and found[-1][0] is None:
                self.assertEqual(worst(rule, 10 ** 30), found[-1][1])
            else:
                self.assertIsNone(worst(rule, start))

    def test_named_edges(self):
        self.assertEqual(promised(Rule(None)), ((None, 0),))
        self.assertEqual(promised(Rule(1)), ((0, 0),))
        self.assertEqual(promised(Rule(10 ** 18)), ((10 ** 18 - 1, 0),))
        self.assertEqual(promised(Rule(5, 6, 7, None)), ((4, 0), (None, 7)))
        self.assertEqual(promised(Rule(*[0] * 60, None)), ((None, 2 ** 60 - 1),))
        self.assertEqual(promised(Rule(1, 2, 4, 8)), ((0, 0),))

    def test_none_is_where_no_restore_point_is(self):
        rule = Rule(0, 2, 8)
        self.assertIsNone(worst(rule, 5))
        self.assertIsNone(restore_point(rule, worst_tick(rule, 5), 5))


if __name__ == '__main__':
    unittest.main()
