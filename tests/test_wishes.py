"""Wishes, and whether a rule meets them: point [9], and [3] (c)."""

import copy
import random
import unittest
from itertools import combinations, product

from rulerkeep.points import distance
from rulerkeep.rules import Rule
from rulerkeep.wishes import first_broken, is_wish, meets, shows_broken
from rulerkeep.worst import worst
from tests import plain
from tests.great import TWELVE, great_rule, great_wish

SMALL_WISHES = [
    tuple(zip(ages, distances))
    for many in (1, 2, 3)
    for ages in combinations(range(5), many)
    for distances in combinations((0, 1, 2, 3, 4, 7), many)
]


class IsWish(unittest.TestCase):
    def test_wishes(self):
        for value in (
            ((0, 0),), ((0, 1),), ((5, 0),), ((0, 1), (1, 3)), ((0, 0), (1, 1), (2, 2)), TWELVE,
            ((10 ** 18, 10 ** 18),), ((0, 0), (10 ** 18, 1)), ((0, 0), (1, 10 ** 18)),
            tuple((at, at) for at in range(12)),
        ):
            self.assertIs(is_wish(value), True, value)

    def test_all_small_values(self):
        for numbers, many in (((-1, 0, 1, 2), 1), ((-1, 0, 1, 2), 2), ((0, 1, 2), 3)):
            for chosen in product(numbers, repeat=2 * many):
                value = tuple(zip(chosen[::2], chosen[1::2]))
                ages, distances = [step[0] for step in value], [step[1] for step in value]
                ascend = ages == sorted(set(ages)) and distances == sorted(set(distances))
                self.assertIs(is_wish(value), ascend and min(chosen) >= 0, value)

    def test_number_of_steps(self):
        self.assertIs(is_wish(()), False)
        self.assertIs(is_wish(tuple((at, at) for at in range(13))), False)
        self.assertIs(is_wish(tuple((at, at) for at in range(100))), False)

    def test_great_numbers(self):
        for value in (
            ((10 ** 18 + 1, 0),), ((0, 10 ** 18 + 1),), ((0, 0), (1, 10 ** 18 + 1)), ((0, 0), (10 ** 18 + 1, 1)),
            ((10 ** 19, 10 ** 19),), ((-10 ** 19, 0),), ((0, -1),), ((-1, 0),), ((-1, 0), (0, 1)), ((0, -1), (1, 0)),
        ):
            self.assertIs(is_wish(value), False, value)

    def test_both_ascend(self):
        for value in (
            ((0, 1), (0, 2)), ((0, 1), (1, 1)), ((1, 1), (0, 2)), ((0, 2), (1, 1)), ((0, 1), (0, 1)),
            ((0, 0), (1, 1), (1, 2)), ((0, 0), (2, 1), (1, 2)), ((0, 0), (1, 2), (2, 1)),
        ):
            self.assertIs(is_wish(value), False, value)

    def test_steps_of_a_wrong_kind(self):
        for step in (
            [0, 1], (0,), (), (0, 1, 2), (True, 1), (0, True), (0, False), (False, 0), (None, 1), (0, None), ('0', 1),
            ((0,), 1), (0, [1]), {0: 1}, '01', 5, None, True, ((0, 1), (1, 3)), ((0, 1),),
        ):
            for value in ((step,), [step], ((0, 0), step), (step, (10, 10))):
                self.check_is_no_wish(value)

    def test_any_value(self):
        for value in plain.NOT_NATURAL:
            for wrapped in (value, (value,), [value], {'wish': value}, ((0, 0), value), ((0, value),), ((value, 0),)):
                self.check_is_no_wish(wrapped)
        for value in (0, 1, 5, 10 ** 18, 10 ** 19, (0, 0), (0, 1)):
            for wrapped in (value, [value], {'wish': value}, ((0, 0), value, (1, 1)), (value, value)):
                self.check_is_no_wish(wrapped)

    def check_is_no_wish(self, value):
        held = copy.deepcopy(value)
        self.assertIs(is_wish(value), False, value)
        self.assertEqual(repr(value), repr(held))

    def test_lists_are_no_tuples(self):
        self.assertIs(is_wish([(0, 1), (1, 3)]), False)
        self.assertIs(is_wish(([0, 1], [1, 3])), False)
        self.assertIs(is_wish(((0, 1), [1, 3])), False)
        self.assertIs(is_wish({(0, 1): (1, 3)}), False)


class Meets(unittest.TestCase):
    def test_at_all_ages_and_ticks(self):
        for lives in plain.all_lives(2, 5) + [(0, 0, 4), (0, 0, 7), (0, 1, 7), (1, 3, 8), (0, 3, None), (0, 0, None)]:
            rule = Rule(*lives)
            found = [plain.worst(lives, age) for age in range(5)]
            for wish in SMALL_WISHES:
                broken = [age for age in range(wish[-1][0] + 1) if plain.worse(found[age], plain.wished(wish, age))]
                self.assertIs(meets(rule, wish), not broken, (lives, wish))
                self.check_first_broken(lives, wish, broken)

    def check_first_broken(self, lives, wish, broken):
        told = first_broken(Rule(*lives), wish)
        if not broken:
            self.assertIsNone(told)
            return
        self.assertIsInstance(told, tuple)
        age, tick = told
        self.assertEqual(age, broken[0], (lives, wish))
        self.assertGreaterEqual(tick, age)
        self.assertTrue(plain.worse(plain.distance(lives, tick, age), plain.wished(wish, age)), (lives, wish))

    def test_nothing_is_wished_beyond_the_last_step(self):
        self.assertIs(meets(Rule(1), ((0, 0),)), True)
        self.assertIsNone(first_broken(Rule(1), ((0, 0),)))
        self.assertIs(meets(Rule(1), ((0, 0), (1, 10 ** 18))), False)
        self.assertEqual(first_broken(Rule(1), ((0, 0), (1, 10 ** 18)))[0], 1)

    def test_lives_of_0_meet_nothing(self):
        for wish in (((0, 10 ** 18),), ((10 ** 18, 10 ** 18),), TWELVE):
            self.assertIs(meets(Rule(0), wish), False)
            age, tick = first_broken(Rule(0), wish)
            self.assertEqual(age, 0)
            self.assertIs(shows_broken(Rule(0), wish, (age, tick)), True)

    def test_a_wish_whose_only_age_is_0(self):
        for lives, limit, met in (((1,), 0, True), ((0, 2), 0, False), ((0, 2), 1, True), ((0, 1), 1, False),
                                  ((0, 0, 3), 10 ** 18, False), ((0, 0, 4), 3, True), ((0, 0, 4), 2, False)):
            self.assertIs(meets(Rule(*lives), ((0, limit),)), met, (lives, limit))
            self.assertEqual(first_broken(Rule(*lives), ((0, limit),)) is None, met)

    def test_twelve_great_steps(self):
        self.assertIs(meets(Rule(*[0] * 59, None), TWELVE), True)
        self.assertIs(meets(Rule(*[0] * 60, None), TWELVE), False)
        self.assertIs(meets(Rule(10 ** 18), TWELVE), False)
        self.assertEqual(first_broken(Rule(10 ** 18), TWELVE)[0], 10 ** 18)
        self.assertIs(meets(Rule(10 ** 18) + 1, TWELVE), True)
        self.assertIs(meets(Rule(10 ** 18 - 11 + 1), TWELVE[:1]), True)
        self.assertIs(meets(Rule(10 ** 18 - 11), TWELVE[:1]), False)

    def test_great_numbers(self):
        chance = random.Random(91)
        met = 0
        for _ in range(600):
            rule, wish = great_rule(chance), great_wish(chance, chance.choice((1, 2, 5, 12)))
            told = first_broken(rule, wish)
            kept_to = all([not plain.worse(worst(rule, age), limit) for age, limit in wish])
            self.assertIs(meets(rule, wish), kept_to)
            self.assertEqual(told is None, kept_to)
            met += kept_to
            if told is not None:
                self.check_least_age(rule, wish, *told)
        self.assertTrue(50 < met < 550, met)

    def check_least_age(self, rule, wish, age, tick):
        self.assertTrue(plain.worse(worst(rule, age), plain.wished(wish, age)))
        self.assertTrue(plain.worse(distance(rule, tick, age), plain.wished(wish, age)))
        self.assertIs(shows_broken(rule, wish, (age, tick)), True)
        # No lesser age is broken: the worst distance does not fall, so the last ages of the steps are enough.
        for last in [last for last, _ in wish if last < age] + [age - 1]:
            if last >= 0:
                self.assertFalse(plain.worse(worst(rule, last), plain.wished(wish, last)))

    def test_arguments_by_name(self):
        wish = ((0, 1), (1, 3))
        self.assertIs(meets(wish=wish, rule=Rule(0, 3)), True)
        self.assertEqual(first_broken(wish=wish, rule=Rule(0, 2))[0], 1)
        self.assertIs(shows_broken(value=(1, 2), wish=wish, rule=Rule(0, 2)), True)
        self.assertIs(is_wish(value=wish), True)


class ShowsBroken(unittest.TestCase):
    def test_all_small_pairs(self):
        for lives in ((0,), (1,), (2,), (0, 2), (0, 3), (1, 4), (0, 0, 4), (0, 2, 8), (0, None), (0, 0, None)):
            for wish in SMALL_WISHES[::7]:
                for age in range(-2, 8):
                    for tick in range(-2, 20):
                        shown = 0 <= age <= wish[-1][0] and tick >= age and plain.worse(
                            plain.distance(lives, tick, age), plain.wished(wish, age))
                        self.assertIs(shows_broken(Rule(*lives), wish, (age, tick)), shown, (lives, wish, age, tick))

    def test_beyond_the_last_age(self):
        self.assertIs(shows_broken(Rule(0), ((3, 0),), (3, 3)), True)
        self.assertIs(shows_broken(Rule(0), ((3, 0),), (4, 4)), False)
        self.assertIs(shows_broken(Rule(0), ((3, 0),), (3, 2)), False)
        self.assertIs(shows_broken(Rule(0), ((10 ** 18, 0),), (10 ** 18, 10 ** 19)), True)
        self.assertIs(shows_broken(Rule(0), ((10 ** 18, 0),), (10 ** 19, 10 ** 19)), False)

    def test_any_value(self):
        wish = ((0, 0), (3, 1))
        for value in plain.NOT_NATURAL + ((1, 5, 5), (5,), [1, 5], ((1, 5),), {1: 5}, '15'):
            for wrapped in (value, (value,), (value, 5), (0, value), [value, 5], (value, value), ((1, 5), value)):
                held = copy.deepcopy(wrapped)
                self.assertIs(shows_broken(Rule(0), wish, wrapped), False, wrapped)
                self.assertEqual(repr(wrapped), repr(held))
        for value in (0, 5, 10 ** 19, -1, -10 ** 19):
            for wrapped in (value, (value,), [0, value], [1, 5, value], (1, 5, value), {0: value}, ((0, value),)):
                self.assertIs(shows_broken(Rule(0), wish, wrapped), False, wrapped)

    def test_bools_are_no_integers(self):
        wish = ((0, 0), (3, 1))
        for value in ((True, 5), (False, 5), (0, True), (False, False), (True, True), (1, True), (0, False)):
            self.assertIs(shows_broken(Rule(0), wish, value), False, value)
        for value in ((1, 5), (0, 5), (0, 1), (0, 0), (1, 1)):
            self.assertIs(shows_broken(Rule(0), wish, value), True, value)


if __name__ == '__main__':
    unittest.main()
