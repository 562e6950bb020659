"""Stores: point [11], and [3] (d), (e) and (f), held against a plain set of points that goes tick by tick."""

import random
import unittest

from rulerkeep.errors import NotKept, OtherTick, TooMany
from rulerkeep.points import distance, kept, kept_count, restore_point
from rulerkeep.rules import Rule
from rulerkeep.store import Store
from tests import plain
from tests.plain_store import PlainStore, check_same, random_lives, random_pair, step, told

MOST = 10 ** 18


class Ordinary(unittest.TestCase):
    def test_a_new_store_has_the_points_of_its_rule(self):
        for lives in plain.all_lives(3, 5):
            for tick in (0, 1, 2, 7, 12, 16):
                store = Store(Rule(*lives), tick=tick)
                check_same(self, store, PlainStore(lives, tick=tick), (lives, tick))
                self.assertEqual(store.points(), tuple(kept(Rule(*lives), tick)))

    def test_tick_by_tick(self):
        for lives in plain.all_lives(3, 4) + [(0, 2, 8), (0, 0, 0, 20), (1, 3, 6, 9, None)]:
            store, model = Store(Rule(*lives)), PlainStore(lives)
            for _ in range(25):
                store.advance(1)
                model.advance(1)
                self.assertEqual(store.points(), tuple(sorted(model.points)), (lives, model.tick))

    def test_many_ticks_are_as_many_single_ones(self):
        for lives in ((0, 2, 8), (3, 3, 5), (0, None)):
            for start in (0, 3, 8):
                for ticks in range(20):
                    store, model = Store(Rule(*lives), tick=start), PlainStore(lives, tick=start)
                    store.advance(ticks)
                    model.advance(ticks)
                    check_same(self, store, model, (lives, start, ticks))

    def test_random_steps(self):
        for seed in range(300):
            chance = random.Random(seed)
            store, model = random_pair(chance)
            steps = []
            for _ in range(14):
                steps.append(step(chance, store, model))
                check_same(self, store, model, (seed, steps))

    def test_random_steps_clones_and_joins(self):
        for seed in range(120):
            chance = random.Random(1000 + seed)
            pairs = [random_pair(chance)]
            for turn in range(20):
                store, model = chance.choice(pairs)
                others = [pair for pair in pairs if pair[1].tick == model.tick]
                kind = chance.choice(('clone', 'join', 'step', 'step', 'step'))
                if kind == 'clone':
                    pairs.append((store.clone(), model.clone()))
                elif kind == 'join':
                    other, its_model = chance.choice(others)
                    pairs.append((store.joined(other), model.joined(its_model)))
                else:
                    step(chance, store, model)
                for one, its_model in pairs:
                    check_same(self, one, its_model, (seed, turn))

    def test_the_methods_return_none(self):
        store = Store(Rule(0, 2, 8), tick=7)
        self.assertEqual([store.lose(4), store.advance(1), store.change(Rule(3))], [None, None, None])

    def test_without_losses_a_store_says_what_its_rule_says(self):
        rule = Rule(0, 2, 8)
        store = Store(rule)
        for tick in range(30):
            self.assertEqual(store.size(), kept_count(rule, tick))
            for age in range(tick + 1):
                self.assertEqual(store.restore(age), restore_point(rule, tick, age))
                self.assertEqual(store.distance(age), distance(rule, tick, age))
            store.advance(1)

    def test_the_tick_0(self):
        for lives, points in (((0,), ()), ((1,), (0,)), ((0, 1), (0,)), ((None,), (0,))):
            store = Store(Rule(*lives))
            self.assertEqual((store.tick, store.points(), store.size()), (0, points, len(points)))
            self.assertEqual([store.restore(0), store.distance(0)], [0, 0] if points else [None, None])
            self.assertIs(0 in store, bool(points))
            store.advance(0)
            self.assertEqual((store.tick, store.points()), (0, points))

    def test_properties_are_read_only(self):
        store = Store(Rule(0, 2), tick=5)
        for name, value in (('tick', 6), ('rule', Rule(1))):
            with self.assertRaises(AttributeError):
                setattr(store, name, value)
        self.assertEqual((store.tick, store.rule), (5, Rule(0, 2)))

    def test_arguments_by_name(self):
        store = Store(rule=Rule(0, 2, 8), tick=7)
        store.lose(point=4)
        self.assertEqual([store.restore(age=2), store.distance(age=2)], [0, 5])
        store.advance(ticks=1)
        store.change(rule=Rule(3))
        self.assertEqual(store.joined(other=store).points(), (8,))
        self.assertRaises(TypeError, Store, Rule(1), 7)


class Changes(unittest.TestCase):
    def test_a_deleted_point_does_not_come_back(self):
        # At the tick 4 the point 0 is too old for the rule 3, and would be young enough by the rule 9.
        store = Store(Rule(9), tick=4)
        store.change(Rule(3))
        self.assertEqual(store.points(), (2, 3, 4))
        store.change(Rule(9))
        self.assertEqual(store.points(), (2, 3, 4))
        store.advance(3)
        self.assertEqual(store.points(), (2, 3, 4, 5, 6, 7))
        store.advance(5)
        self.assertEqual(store.points(), tuple(range(4, 13)))

    def test_the_change_is_behind_the_making_of_its_tick(self):
        store = Store(Rule(0, 9), tick=7)
        store.change(Rule(9))
        self.assertEqual(store.points(), (0, 2, 4, 6))
        store.advance(1)
        self.assertEqual(store.points(), (0, 2, 4, 6, 8))
        store.advance(1)
        self.assertEqual(store.points(), (2, 4, 6, 8, 9))

    def test_a_change_deletes_at_once(self):
        store = Store(Rule(None), tick=9)
        store.change(Rule(0, 4))
        self.assertEqual((store.points(), store.rule), ((6, 8), Rule(0, 4)))

    def test_two_changes_at_one_tick(self):
        store = Store(Rule(9), tick=9)
        store.change(Rule(2))
        store.change(Rule(6))
        self.assertEqual((store.points(), store.rule), ((8, 9), Rule(6)))
        store.advance(2)
        self.assertEqual(store.points(), (8, 9, 10, 11))

    def test_a_change_back_to_the_rule_ahead(self):
        store = Store(Rule(0, 8), tick=8)
        store.change(Rule(0, 2))
        store.change(Rule(0, 8))
        self.assertEqual(store.points(), (8,))
        store.advance(7)
        self.assertEqual(store.points(), (8, 10, 12, 14))

    def test_a_change_to_the_rule_in_force(self):
        store = Store(Rule(0, 2, 8), tick=7)
        before = told(store)
        store.change(Rule(0, 2, 8))
        self.assertEqual(told(store), before)

    def test_lives_of_none_on_either_side(self):
        store = Store(Rule(None), tick=3)
        store.change(Rule(2))
        store.change(Rule(None))
        store.advance(10)
        self.assertEqual(store.points(), tuple(range(2, 14)))
        store.change(Rule(0, None))
        self.assertEqual(store.points(), (2, 4, 6, 8, 10, 12))

    def test_lives_of_0(self):
        store = Store(Rule(4), tick=8)
        store.change(Rule(0))
        self.assertEqual((store.points(), store.size(), store.restore(0)), ((), 0, None))
        store.change(Rule(4))
        self.assertEqual(store.points(), ())
        store.advance(1)
        self.assertEqual(store.points(), (9,))


class Losses(unittest.TestCase):
    def test_for_good(self):
        store = Store(Rule(9), tick=4)
        store.lose(3)
        for rule in (Rule(2), Rule(9), Rule(None)):
            store.change(rule)
            store.advance(1)
            self.assertNotIn(3, store.points())
            self.assertIs(3 in store, False)

    def test_all_points(self):
        store = Store(Rule(4), tick=9)
        for point in (6, 9, 7, 8):
            store.lose(point)
        self.assertEqual((store.points(), store.size(), store.restore(0), store.distance(0)), ((), 0, None, None))
        store.advance(1)
        self.assertEqual((store.points(), store.size()), ((10,), 1))

    def test_the_point_0(self):
        store = Store(Rule(None), tick=3)
        store.lose(0)
        self.assertEqual((store.points(), store.restore(3), store.restore(2)), ((1, 2, 3), None, 1))

    def test_restores_pass_over_many_lost_points(self):
        store = Store(Rule(None), tick=MOST)
        for point in range(MOST - 1500, MOST - 2):
            store.lose(point)
        self.assertEqual([store.restore(3), store.distance(3)], [MOST - 1501, 1498])
        self.assertEqual([store.restore(2), store.distance(2)], [MOST - 2, 0])

    def test_twice(self):
        store = Store(Rule(0, 2, 8), tick=7)
        store.lose(4)
        before = told(store)
        with self.assertRaises(NotKept) as caught:
            store.lose(4)
        self.assertEqual(caught.exception.value, 4)
        self.assertEqual(told(store), before)

    def test_deleted_points_are_not_there_to_be_lost(self):
        store = Store(Rule(3), tick=9)
        for point in (0, 6, 10, MOST):
            with self.assertRaises(NotKept) as caught:
                store.lose(point)
            self.assertEqual(caught.exception.value, point)
        self.assertEqual(store.points(), (7, 8, 9))

    def test_a_lost_point_is_not_counted_once_it_would_be_deleted(self):
        store = Store(Rule(3), tick=9)
        store.lose(7)
        store.advance(1)
        self.assertEqual((store.size(), store.points()), (3, (8, 9, 10)))
        store.lose(8)
        store.change(Rule(2))
        self.assertEqual((store.size(), store.points()), (2, (9, 10)))


class ManyPoints(unittest.TestCase):
    def test_2000(self):
        store = Store(Rule(2000), tick=1999)
        self.assertEqual(store.points(), tuple(range(2000)))
        store.advance(1)
        self.assertEqual(store.points(), tuple(range(1, 2001)))

    def test_2001(self):
        store = Store(Rule(2001), tick=2000)
        with self.assertRaises(TooMany) as caught:
            store.points()
        self.assertEqual((caught.exception.value, store.size(), store.tick), (2001, 2001, 2000))
        store.lose(0)
        self.assertEqual(store.points(), tuple(range(1, 2001)))

    def test_10_to_the_18(self):
        store = Store(Rule(None), tick=MOST)
        store.lose(5)
        with self.assertRaises(TooMany) as caught:
            store.points()
        self.assertEqual(caught.exception.value, MOST)


class Joins(unittest.TestCase):
    def test_each_has_lost_what_the_other_has(self):
        one = Store(Rule(0, 2, 8), tick=7)
        other = one.clone()
        one.lose(4)
        other.lose(6)
        self.assertEqual(one.joined(other).points(), (0, 4, 6))
        self.assertEqual([one.points(), other.points()], [(0, 6), (0, 4)])

    def test_what_both_have_lost(self):
        one = Store(Rule(0, 2, 8), tick=7)
        one.lose(4)
        other = one.clone()
        other.lose(0)
        both = one.joined(other)
        self.assertEqual((both.points(), both.size(), both.restore(2)), ((0, 6), 2, 0))

    def test_what_one_has_lost_and_the_other_has_deleted(self):
        one, other = Store(Rule(9), tick=9), Store(Rule(2), tick=9)
        one.lose(3)
        for both in (one.joined(other), other.joined(one)):
            self.assertEqual(both.points(), (1, 2, 4, 5, 6, 7, 8, 9))
            both.advance(2)
            self.assertEqual(both.points(), (4, 5, 6, 7, 8, 9, 10, 11))

    def test_the_rules_in_force_are_joined(self):
        one, other = Store(Rule(0, 2, 8), tick=7), Store(Rule(1, 1, 9), tick=7)
        self.assertEqual(one.joined(other).rule.lives, (1, 2, 9))
        # Not the rules that still show in the points.
        one.change(Rule(0, 3))
        other.change(Rule(5))
        both = one.joined(other)
        self.assertEqual((both.rule, both.tick), (Rule(5), 7))

    def test_an_independent_store(self):
        one, other = Store(Rule(3), tick=5), Store(Rule(0, 6), tick=5)
        before = (told(one), told(other))
        both = one.joined(other)
        both.lose(5)
        both.change(Rule(2))
        both.advance(3)
        self.assertEqual((told(one), told(other)), before)
        both = one.joined(other)
        joined = told(both)
        one.lose(5)
        other.advance(1)
        other.change(Rule(0))
        self.assertEqual(told(both), joined)

    def test_a_store_joined_with_itself(self):
        store = Store(Rule(0, 2, 8), tick=7)
        store.change(Rule(5))
        store.lose(6)
        both = store.joined(store)
        self.assertEqual(told(both), told(store))
        both.lose(4)
        self.assertEqual(store.points(), (4,))

    def test_joined_stores_are_changed_led_on_and_joined_again(self):
        for seed in range(60):
            chance = random.Random(seed)
            tick = chance.randrange(12)
            some = []
            for _ in range(4):
                lives = random_lives(chance)
                some.append((Store(Rule(*lives), tick=tick), PlainStore(lives, tick=tick)))
            while len(some) > 1:
                lives, ticks = random_lives(chance), chance.randrange(6)
                (one, its), (other, others) = some[0], some[1]
                for store, model in some:
                    if model.points and chance.random() < 0.7:
                        point = chance.choice(sorted(model.points))
                        store.lose(point)
                        model.lose(point)
                both, plainly = one.joined(other), its.joined(others)
                check_same(self, both, plainly, seed)
                both.change(Rule(*lives))
                plainly.change(lives)
                some = some[2:] + [(both, plainly)]
                for store, model in some:
                    store.advance(ticks)
                    model.advance(ticks)
                    check_same(self, store, model, seed)

    def test_another_tick(self):
        for tick in (0, 6, 8, MOST):
            store, other = Store(Rule(0, 2, 8), tick=7), Store(Rule(3), tick=tick)
            before = told(store)
            with self.assertRaises(OtherTick) as caught:
                store.joined(other)
            self.assertEqual(caught.exception.value, tick)
            self.assertEqual(told(store), before)
            self.assertEqual(other.tick, tick)
        other = Store(Rule(1), tick=MOST)
        other.advance(MOST)
        with self.assertRaises(OtherTick) as caught:
            store.joined(other)
        self.assertEqual(caught.exception.value, 2 * MOST)


class Clones(unittest.TestCase):
    def test_the_same_content(self):
        for seed in range(60):
            chance = random.Random(seed)
            store, model = random_pair(chance)
            for _ in range(8):
                step(chance, store, model)
            twin = store.clone()
            self.assertEqual(told(twin), told(store))
            check_same(self, twin, model)

    def test_independent(self):
        for lead in (lambda one: one.lose(4), lambda one: one.advance(2), lambda one: one.change(Rule(3))):
            store = Store(Rule(0, 2, 8), tick=7)
            store.lose(6)
            before = told(store)
            twin = store.clone()
            lead(twin)
            self.assertNotEqual(told(twin), before)
            self.assertEqual(told(store), before)
            twin = store.clone()
            lead(store)
            self.assertEqual(told(twin), before)


if __name__ == '__main__':
    unittest.main()
