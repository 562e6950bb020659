"""Stores with ticks, ages, lives and advances of 10 ** 18 and beyond: [2], [3] and [11]."""

import random
import unittest

from rulerkeep.averages import average, most
from rulerkeep.changes import after_changes, changed, settled
from rulerkeep.errors import BadTicks, KeepError
from rulerkeep.points import kept_count, restore_point
from rulerkeep.rules import Rule
from rulerkeep.store import Store, Trial
from rulerkeep.wishes import cheapest
from tests.great import TWELVE, great_rule
from tests.great_store import GreatStore

MOST = 10 ** 18


def random_ticks(chance):
    return chance.choice((0, 1, MOST, MOST - 1, chance.randrange(10 ** chance.randrange(1, 19))))


class Great(unittest.TestCase):
    def pair(self, chance, tick):
        rule = great_rule(chance)
        return Store(rule, tick=tick), GreatStore(rule.lives, tick)

    def check_same(self, chance, store, model, note):
        self.assertEqual((store.tick, store.rule), (model.tick, store.rule), note)
        self.assertEqual(store.size(), model.size(), note)
        ages = [0, model.tick] + [chance.randrange(10 ** chance.randrange(1, 20)) for _ in range(8)]
        ages += [model.tick - point for point in model.lost]
        for age in [age for age in ages if age <= model.tick]:
            point = model.restore(age)
            self.assertEqual(store.restore(age), point, (note, age))
            self.assertEqual(store.distance(age), None if point is None else model.tick - point - age, (note, age))
            for near in (model.tick - age, model.tick - age - 1, point):
                if near is not None and near >= 0:
                    self.assertIs(near in store, model.has(near), (note, near))

    def step(self, chance, store, model):
        kind = chance.choice(('advance', 'change', 'lose', 'lose'))
        if kind == 'advance':
            ticks = random_ticks(chance)
            store.advance(ticks)
            model.advance(ticks)
        elif kind == 'change':
            rule = great_rule(chance) + chance.choice((0, 0, 0, MOST, 5 * MOST))
            store.change(rule)
            model.change(rule.lives)
        else:
            point = model.restore(chance.randrange(min(model.tick, 10 ** chance.randrange(1, 20)) + 1))
            if point is not None:
                store.lose(point)
                model.lose(point)

    def test_random_steps(self):
        for seed in range(60):
            chance = random.Random(seed)
            store, model = self.pair(chance, random_ticks(chance))
            for turn in range(12):
                self.step(chance, store, model)
                self.check_same(chance, store, model, (seed, turn))

    def test_joins(self):
        for seed in range(40):
            chance = random.Random(500 + seed)
            tick = random_ticks(chance)
            some = [self.pair(chance, tick) for _ in range(3)]
            for turn in range(8):
                ticks = random_ticks(chance)
                for store, model in some:
                    store.advance(ticks)
                    model.advance(ticks)
                    rule = great_rule(chance)
                    store.change(rule)
                    model.change(rule.lives)
                    for age in (0, ticks, chance.randrange(model.tick + 1)):
                        point = model.restore(age)
                        if point is not None:
                            store.lose(point)
                            model.lose(point)
                (one, its), (other, others) = chance.choice(some), chance.choice(some)
                both = (one.joined(other), its.joined(others))
                self.assertEqual(both[0].rule.lives, Rule.of(both[1].lives).lives)
                self.check_same(chance, *both, (seed, turn))
                some = [both] + some[:2]

    def test_clones_and_trials_within_the_changes(self):
        for seed in range(30):
            chance = random.Random(700 + seed)
            store, model = self.pair(chance, MOST)
            for turn in range(4):
                self.step(chance, store, model)
                twin, its_model = store.clone(), model.clone()
                with Trial(store) as held:
                    for _ in range(3):
                        self.step(chance, held, its_model)
                    self.check_same(chance, held, its_model, (seed, turn))
                self.check_same(chance, store, model, (seed, turn))
                self.check_same(chance, twin, model, (seed, turn))

    def test_sixty_one_lives_and_several_changes(self):
        rules = [
            Rule(*[at * 10 ** 16 for at in range(60)], MOST), Rule(*[2 ** at for at in range(59)], MOST, None),
            Rule(*[10 ** 18 - 60 + at for at in range(61)]), Rule(*[0] * 60, MOST),
        ]
        self.assertEqual([len(rule) for rule in rules], [61] * 4)
        store, model = Store(rules[0], tick=MOST), GreatStore(rules[0].lives, MOST)
        chance = random.Random(11)
        for rule in rules[1:] + rules:
            for ticks in (0, MOST, 10 ** 9):
                store.advance(ticks)
                model.advance(ticks)
                self.check_same(chance, store, model, ticks)
            store.change(rule)
            model.change(rule.lives)
            self.check_same(chance, store, model, rule.lives)

    def test_the_points_are_those_of_after_changes(self):
        for seed in range(40):
            chance = random.Random(seed)
            first = great_rule(chance)
            store, changes = Store(first, tick=MOST), []
            for _ in range(6):
                changes.append((great_rule(chance), random_ticks(chance)))
                store.change(changes[-1][0])
                store.advance(changes[-1][1])
                rule = after_changes(first, *changes)
                self.assertEqual(store.size(), kept_count(rule, store.tick))
                for _ in range(10):
                    age = chance.randrange(store.tick + 1)
                    self.assertEqual(store.restore(age), restore_point(rule, store.tick, age))


class Beyond(unittest.TestCase):
    """Ticks beyond 10 ** 18, and rules with lives above it."""

    def test_the_tick_goes_beyond(self):
        store = Store(Rule(3), tick=MOST)
        for many in range(1, 6):
            store.advance(MOST)
            self.assertEqual(store.tick, (many + 1) * MOST)
        self.assertEqual(store.points(), (6 * MOST - 2, 6 * MOST - 1, 6 * MOST))
        self.assertEqual([store.restore(2), store.restore(6 * MOST), store.distance(1)], [6 * MOST - 2, None, 0])
        twin = store.clone()
        self.assertEqual((twin.tick, twin.points()), (store.tick, store.points()))
        both = store.joined(twin)
        self.assertEqual((both.tick, both.points()), (store.tick, store.points()))
        with self.assertRaises(BadTicks):
            store.advance(MOST + 1)
        with self.assertRaises(BadTicks):
            Store(Rule(3), tick=store.tick)

    def test_rules_with_lives_above_the_limit(self):
        wide = cheapest(((MOST, MOST),))
        self.assertGreater(wide.lives[-1], MOST)
        store = Store(wide + MOST, tick=MOST)
        store.change(Rule(5))
        store.advance(3)
        store.change(wide)
        store.advance(MOST)
        expected = after_changes(wide + MOST, (Rule(5), 3), (wide, MOST))
        self.assertEqual(store.size(), kept_count(expected, store.tick))
        self.assertEqual((store.rule, settled(Rule(0), wide)), (wide, wide.lives[-1]))

    def test_what_a_change_gives_may_be_passed_in_again(self):
        wide = changed(Rule(0, MOST), Rule(1, None), MOST)
        self.assertEqual(wide.lives, (1, 2 * MOST))
        store = Store(wide)
        store.advance(MOST)
        store.advance(MOST)
        self.assertEqual(store.size(), MOST)
        self.assertEqual((average(wide), most(wide)[0]), ((2 * MOST + 1, 2), MOST + 1))
        store.change(changed(wide, wide + 5, 2))
        self.assertEqual((store.rule.lives, store.size()), ((3, 2 * MOST + 2), MOST))
        both = store.joined(store.clone())
        self.assertEqual((both.rule.lives, both.size()), ((3, 2 * MOST + 2), MOST))

    def test_lives_of_very_many_figures(self):
        wide = Rule(0, 1)
        for _ in range(15000):
            wide = wide + wide[1]
        store = Store(wide, tick=MOST)
        store.change(Rule(3))
        store.advance(2)
        store.change(wide)
        store.advance(MOST)
        self.assertEqual(store.rule, wide)
        self.assertEqual(settled(Rule(0), wide), wide[1])
        self.assertEqual(settled(wide, Rule(9)), 0)
        self.assertEqual([changed(Rule(3), wide, wide[1]), changed(Rule(3), wide, 4).lives], [wide, (7,)])

    def test_the_twelve_great_steps(self):
        rule = cheapest(TWELVE)
        store, model = Store(rule, tick=MOST), GreatStore(rule.lives, MOST)
        store.advance(MOST)
        model.advance(MOST)
        self.assertEqual([store.size(), store.restore(MOST - 12)], [model.size(), model.restore(MOST - 12)])
        self.assertEqual(store.size(), kept_count(rule, 2 * MOST))

    def test_errors_leave_a_great_store_alone(self):
        store = Store(Rule(0, MOST), tick=MOST)
        store.advance(MOST)
        for call in (lambda: store.advance(MOST + 1), lambda: store.lose(1), lambda: store.restore(2 * MOST + 1),
                     lambda: store.points(), lambda: store.joined(Store(Rule(1)))):
            self.assertRaises(KeepError, call)
            self.assertEqual((store.tick, store.rule, store.size()), (2 * MOST, Rule(0, MOST), MOST // 2))


if __name__ == '__main__':
    unittest.main()
