"""Kept points, their numbers, restore points and distances: point [6], and [3] (e)."""

import inspect
import random
import unittest
from itertools import islice

from rulerkeep.points import distance, kept, kept_between, kept_count, restore_point
from rulerkeep.rules import Rule
from tests import great, plain

SMALL = plain.all_lives(3, 7) + [(0, 0, 0, 3), (1, 2, 3, 9), (0, 0, 5, 5, None), (2, 4, 8, 16, 32), (0, 1, 1, 20)]


class Points(unittest.TestCase):
    def test_kept_is_all_kept_points(self):
        for lives in SMALL:
            for tick in range(40):
                found = plain.kept(lives, tick)
                self.assertEqual(list(kept(Rule(*lives), tick)), found, (lives, tick))
                self.assertEqual(kept_count(Rule(*lives), tick), len(found), (lives, tick))

    def test_kept_is_what_the_rule_contains(self):
        rule = Rule(0, 1, 1, 20)
        for tick in range(50):
            self.assertEqual(list(kept(rule, tick)), [point for point in range(60) if (point, tick) in rule])

    def test_kept_between_counts_all_kept_points_there(self):
        for lives in plain.all_lives(2, 4) + SMALL[-5:]:
            rule = Rule(*lives)
            for tick in (0, 1, 5, 8, 13, 16):
                found = plain.kept(lives, tick)
                for low in range(20):
                    for high in range(20):
                        many = len([point for point in found if low <= point <= high])
                        self.assertEqual(kept_between(rule, tick, low, high), many, (lives, tick, low, high))

    def test_restore_point_and_distance(self):
        for lives in SMALL:
            rule = Rule(*lives)
            for tick in range(34):
                for age in range(tick + 1):
                    point = plain.restore_point(lives, tick, age)
                    self.assertEqual(restore_point(rule, tick, age), point, (lives, tick, age))
                    self.assertEqual(distance(rule, tick, age), plain.distance(lives, tick, age), (lives, tick, age))

    def test_the_tick_0(self):
        for lives, points in (((0,), []), ((1,), [0]), ((0, 0, 1), [0]), ((0, None), [0]), ((None,), [0])):
            rule = Rule(*lives)
            self.assertEqual(list(kept(rule, 0)), points)
            self.assertEqual(kept_count(rule, 0), len(points))
            self.assertEqual(kept_between(rule, 0, 0, 0), len(points))
            self.assertEqual(kept_between(rule, 0, 1, 10 ** 18), 0)
            self.assertEqual(restore_point(rule, 0, 0), 0 if points else None)
            self.assertEqual(distance(rule, 0, 0), 0 if points else None)

    def test_an_age_that_is_the_tick(self):
        self.assertEqual([restore_point(Rule(0, 8), 7, 7), distance(Rule(0, 8), 7, 7)], [0, 0])
        self.assertEqual([restore_point(Rule(0, 7), 7, 7), distance(Rule(0, 7), 7, 7)], [None, None])
        self.assertEqual([restore_point(Rule(None), 10 ** 18, 10 ** 18), distance(Rule(1), 9, 9)], [0, None])

    def test_the_age_0(self):
        self.assertEqual([restore_point(Rule(1), 7, 0), distance(Rule(1), 7, 0)], [7, 0])
        self.assertEqual([restore_point(Rule(0, 9), 7, 0), distance(Rule(0, 9), 7, 0)], [6, 1])

    def test_lives_of_0_keep_nothing(self):
        for tick in (0, 1, 2, 8, 1000, 10 ** 18):
            self.assertEqual(list(kept(Rule(0), tick)), [])
            self.assertEqual(kept_count(Rule(0), tick), 0)
            self.assertEqual(kept_between(Rule(0), tick, 0, tick + 1), 0)
            self.assertIsNone(restore_point(Rule(0), tick, 0))
            self.assertIsNone(distance(Rule(0), tick, 0))

    def test_a_last_life_of_none(self):
        rule = Rule(0, 3, None)
        self.assertEqual(list(kept(rule, 11)), [0, 4, 8, 10])
        self.assertEqual(list(kept(rule, 1000))[-3:], [996, 998, 1000])
        self.assertEqual(kept_count(rule, 4 * 10 ** 18 + 3), 10 ** 18 + 2)
        self.assertEqual(restore_point(rule, 4 * 10 ** 18 + 3, 10 ** 18 + 1), 3 * 10 ** 18)
        self.assertEqual(distance(rule, 4 * 10 ** 18 + 3, 10 ** 18 + 1), 2)

    def test_ranges(self):
        rule = Rule(0, 2, 8)
        self.assertEqual(kept_between(rule, 7, 6, 5), 0)
        self.assertEqual(kept_between(rule, 7, 6, 0), 0)
        self.assertEqual(kept_between(rule, 7, 0, 10 ** 18), 3)
        self.assertEqual(kept_between(rule, 7, 6, 6), 1)
        self.assertEqual(kept_between(rule, 7, 7, 7), 0)
        self.assertEqual(kept_between(rule, 7, 8, 10 ** 18), 0)
        self.assertEqual(kept_between(rule, 7, 10 ** 18, 0), 0)
        self.assertEqual(kept_between(Rule(None), 7, 100, 9), 0)

    def test_arguments_by_name(self):
        rule = Rule(0, 2, 8)
        self.assertEqual(list(kept(rule=rule, tick=7)), [0, 4, 6])
        self.assertEqual(kept_count(tick=7, rule=rule), 3)
        self.assertEqual(kept_between(high=6, low=1, tick=7, rule=rule), 2)
        self.assertEqual(restore_point(age=2, tick=7, rule=rule), 4)
        self.assertEqual(distance(age=2, tick=7, rule=rule), 1)
        self.assertEqual(rule.lives, (0, 2, 8))


class Walks(unittest.TestCase):
    def test_kept_is_a_generator(self):
        self.assertTrue(inspect.isgeneratorfunction(kept))
        walk = kept(Rule(0, 2, 8), 7)
        self.assertEqual([next(walk), next(walk), next(walk), next(walk, None)], [0, 4, 6, None])

    def test_as_far_as_it_is_asked(self):
        walk = kept(Rule(10 ** 18), 2 * 10 ** 18)
        self.assertEqual(list(islice(walk, 3)), [10 ** 18 + 1, 10 ** 18 + 2, 10 ** 18 + 3])
        self.assertEqual(next(walk), 10 ** 18 + 4)
        walk = kept(Rule(None), 10 ** 18)
        self.assertEqual(list(islice(walk, 4)), [0, 1, 2, 3])

    def test_points_that_lie_far_apart(self):
        rule = Rule(*[0] * 60, 10 ** 18)
        self.assertEqual(list(kept(rule, 10 ** 18)), [])
        self.assertEqual(list(kept(rule, 2 ** 60 + 10 ** 18 - 1)), [2 ** 60])
        rule = Rule(*[0] * 57, None)
        self.assertEqual(list(kept(rule, 10 ** 18)), [2 ** 57 * at for at in range(7)])
        rule = Rule(0, 1, 1, *[1] * 50, 10 ** 18)
        self.assertEqual(list(kept(rule, 10 ** 18))[-2:], [111 * 2 ** 53, 10 ** 18])

    def test_a_walk_that_is_left_amid_leaves_the_next_one_alone(self):
        rule = Rule(0, 2, 8)
        walk = kept(rule, 7)
        self.assertEqual(next(walk), 0)
        self.assertEqual(list(kept(rule, 7)), [0, 4, 6])
        self.assertEqual(list(walk), [4, 6])
        for point in kept(rule, 7):
            if point == 4:
                break
        self.assertEqual(list(kept(rule, 7)), [0, 4, 6])

    def test_a_walk_within_another(self):
        rule = Rule(0, 3, 8)
        seen = [(one, other) for one in kept(rule, 7) for other in kept(rule, 6)]
        self.assertEqual(seen, [(one, other) for one in (0, 4, 6) for other in (0, 4, 6)])
        one, other = kept(rule, 7), kept(rule | Rule(1), 7)
        self.assertEqual([next(one), next(other), next(one), next(other)], [0, 0, 4, 4])
        self.assertEqual([list(one), list(other)], [[6], [6, 7]])


class Joined(unittest.TestCase):
    def test_either_and_both(self):
        some = [Rule(*lives) for lives in plain.all_lives(2, 4)]
        for one in some:
            for other in some:
                for tick in (0, 3, 8, 13):
                    mine, its = set(kept(one, tick)), set(kept(other, tick))
                    self.assertEqual(list(kept(one | other, tick)), sorted(mine | its))
                    self.assertEqual(list(kept(one & other, tick)), sorted(mine & its))


class Great(unittest.TestCase):
    """Ticks, ages and lives of 10 ** 18 with sixty-one lives."""

    def rules(self):
        chance = random.Random(6)
        some = [Rule(*[10 ** 18 - 60 + at for at in range(61)]), Rule(*[0] * 60, 10 ** 18), Rule(*[1] * 60, None)]
        some += [Rule(*[at * 10 ** 16 for at in range(60)], None), Rule(*[2 ** at for at in range(60)])]
        for many in (2, 5, 30, 61, 61, 61):
            lives = sorted([chance.randrange(10 ** chance.randrange(1, 19)) for _ in range(many)])
            some += [Rule(*lives), Rule(*lives[:-1], None), Rule(*lives) + 10 ** 18]
        return some

    def ticks(self):
        chance = random.Random(7)
        some = [10 ** 18, 10 ** 18 - 1, 2 ** 59, 2 ** 60 - 1, 3 * 2 ** 59]
        return some + [chance.randrange(10 ** 18) for _ in range(5)]

    def test_numbers(self):
        chance = random.Random(8)
        for rule in self.rules():
            for tick in self.ticks():
                self.assertEqual(kept_count(rule, tick), great.count_between(rule.lives, tick, 0, tick))
                for _ in range(4):
                    low, high = chance.randrange(tick), tick - chance.randrange(10 ** chance.randrange(1, 18))
                    many = great.count_between(rule.lives, tick, low, high)
                    self.assertEqual(kept_between(rule, tick, low, high), many, (rule.lives, tick, low, high))

    def test_restores(self):
        chance = random.Random(9)
        for rule in self.rules():
            for tick in self.ticks():
                for age in [0, tick] + [chance.randrange(10 ** chance.randrange(1, 18)) for _ in range(6)]:
                    point = great.restore_point(rule.lives, tick, age)
                    self.assertEqual(restore_point(rule, tick, age), point, (rule.lives, tick, age))
                    self.assertEqual(distance(rule, tick, age), None if point is None else tick - age - point)

    def test_walks(self):
        for rule in self.rules():
            for tick in self.ticks():
                first = list(islice(kept(rule, tick), 20))
                self.assertEqual(first, sorted(set(first)))
                self.assertTrue(all(great.keeps(rule.lives, point, tick) for point in first))
                many = great.count_between(rule.lives, tick, 0, first[-1]) if first else 0
                self.assertEqual(len(first), many, (rule.lives, tick))
                self.assertEqual(len(first), min(20, kept_count(rule, tick)))

    def test_counts_beyond_10_to_18(self):
        rule = Rule(10 ** 18) + 10 ** 18
        self.assertEqual(rule.lives, (2 * 10 ** 18,))
        self.assertEqual(kept_count(rule, 10 ** 20), 2 * 10 ** 18)
        self.assertEqual(kept_between(rule, 10 ** 20, 0, 10 ** 20 - 10 ** 18), 10 ** 18)
        self.assertEqual(restore_point(rule, 10 ** 20, 2 * 10 ** 18 - 1), 10 ** 20 - 2 * 10 ** 18 + 1)
        self.assertIsNone(restore_point(rule, 10 ** 20, 2 * 10 ** 18))


if __name__ == '__main__':
    unittest.main()
