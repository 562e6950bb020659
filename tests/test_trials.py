"""Trials: point [11]."""

import random
import unittest

from rulerkeep.errors import BadTicks, KeepError, NotKept
from rulerkeep.rules import Rule
from rulerkeep.store import Store, Trial, tried
from tests.plain_store import check_same, random_pair, step, told

MOST = 10 ** 18


class Stop(Exception):
    """An exception that is none of the program's."""


def upset(store):
    """Change all of a store."""
    store.lose(store.points()[0])
    store.advance(3)
    store.change(Rule(1, 5))
    store.lose(store.points()[-1])


def some_store():
    store = Store(Rule(0, 2, 8), tick=7)
    store.change(Rule(0, 4, 9))
    store.lose(4)
    return store


class Blocks(unittest.TestCase):
    def setUp(self):
        self.store = some_store()
        self.before = told(self.store)

    def test_the_store_itself_is_bound(self):
        with Trial(self.store) as held:
            self.assertIs(held, self.store)
            upset(held)
            self.assertNotEqual(told(self.store), self.before)
            self.assertEqual(self.store.tick, 10)
        self.assertEqual(told(self.store), self.before)

    def test_each_thing_alone(self):
        for lead in (lambda one: one.lose(6), lambda one: one.advance(2), lambda one: one.change(Rule(3)),
                     lambda one: one.advance(0), lambda one: None):
            with Trial(self.store) as held:
                lead(held)
            self.assertEqual(told(self.store), self.before)

    def test_by_name_and_without_as(self):
        with Trial(store=self.store):
            upset(self.store)
        self.assertEqual(told(self.store), self.before)

    def test_exceptions_are_passed_on(self):
        for error in (Stop('x'), KeyError('x'), NotKept(5), KeyboardInterrupt(), SystemExit(2), GeneratorExit()):
            with self.assertRaises(type(error)) as caught:
                with Trial(self.store) as held:
                    upset(held)
                    raise error
            self.assertIs(caught.exception, error)
            self.assertEqual(told(self.store), self.before)

    def test_an_error_of_the_store_itself(self):
        with self.assertRaises(BadTicks):
            with Trial(self.store) as held:
                upset(held)
                held.advance(-1)
        self.assertEqual(told(self.store), self.before)

    def test_left_by_return_break_and_continue(self):
        def returned():
            with Trial(self.store) as held:
                upset(held)
                return held.tick

        self.assertEqual(returned(), 10)
        self.assertEqual(told(self.store), self.before)
        for leave in (True, False):
            for _ in range(3):
                with Trial(self.store) as held:
                    upset(held)
                    if leave:
                        break
                    continue
            self.assertEqual(told(self.store), self.before)

    def test_one_within_another(self):
        with Trial(self.store) as held:
            held.advance(2)
            amid = told(held)
            with Trial(held) as inner:
                self.assertIs(inner, self.store)
                upset(inner)
            self.assertEqual(told(held), amid)
            with self.assertRaises(Stop):
                with Trial(held) as inner:
                    upset(inner)
                    raise Stop
            self.assertEqual(told(held), amid)
            held.advance(1)
        self.assertEqual(told(self.store), self.before)

    def test_one_exception_through_two_blocks(self):
        with self.assertRaises(Stop):
            with Trial(self.store):
                upset(self.store)
                with Trial(self.store):
                    upset(self.store)
                    raise Stop
        self.assertEqual(told(self.store), self.before)

    def test_as_it_was_when_the_block_began(self):
        trial = Trial(self.store)
        self.store.advance(4)
        before = told(self.store)
        with trial:
            upset(self.store)
        self.assertEqual(told(self.store), before)

    def test_one_trial_for_several_blocks(self):
        trial = Trial(self.store)
        with trial:
            upset(self.store)
        self.store.lose(6)
        before = told(self.store)
        with trial:
            self.store.advance(1)
            amid = told(self.store)
            with trial:
                self.store.change(Rule(3))
            self.assertEqual(told(self.store), amid)
        self.assertEqual(told(self.store), before)

    def test_behind_it_the_store_goes_on(self):
        with Trial(self.store) as held:
            upset(held)
        self.store.lose(6)
        self.assertIs(6 in self.store, False)
        with self.assertRaises(NotKept):
            self.store.lose(6)
        self.store.advance(1)
        self.assertEqual(self.store.tick, 8)

    def test_clones_and_joined_stores_stay(self):
        with Trial(self.store) as held:
            held.advance(2)
            twin, both = held.clone(), held.joined(held)
            seen = told(held)
        self.assertEqual([told(twin), told(both)], [seen, seen])
        self.assertEqual(told(self.store), self.before)
        upset(twin)
        self.assertEqual(told(self.store), self.before)

    def test_a_clone_s_trial_leaves_the_store_alone(self):
        twin = self.store.clone()
        with Trial(twin) as held:
            upset(self.store)
            upset(held)
        self.assertEqual(told(twin), self.before)
        self.assertEqual(self.store.tick, 10)

    def test_random_steps(self):
        for seed in range(80):
            chance = random.Random(seed)
            store, model = random_pair(chance)
            for _ in range(5):
                step(chance, store, model)
            twin = model.clone()
            with Trial(store) as held:
                for _ in range(5):
                    step(chance, held, twin)
                check_same(self, held, twin, seed)
            check_same(self, store, model, seed)
            for _ in range(5):
                step(chance, store, model)
                check_same(self, store, model, seed)

    def test_great_ticks(self):
        store = Store(Rule(0, MOST), tick=MOST)
        store.advance(MOST)
        with Trial(store) as held:
            held.advance(MOST)
            held.lose(3 * MOST)
            self.assertEqual(held.tick, 3 * MOST)
        self.assertEqual((store.tick, store.size()), (2 * MOST, MOST // 2))


class Tried(unittest.TestCase):
    def test_what_steps_returns(self):
        store = some_store()
        before = told(store)

        def steps(held):
            self.assertIs(held, store)
            upset(held)
            return (held.tick, held.points())

        tick, points = tried(store, steps)
        self.assertEqual((tick, told(store)), (10, before))
        twin = store.clone()
        upset(twin)
        self.assertEqual(points, twin.points())

    def test_any_result(self):
        store = some_store()
        for value in (None, 0, False, '', (), [1], {'a': 1}, Rule(0)):
            self.assertIs(tried(store, lambda held, value=value: value), value)
        self.assertIs(tried(store, lambda held: held), store)
        self.assertIsNone(tried(steps=lambda held: held.advance(1), store=store))
        self.assertEqual(store.tick, 7)

    def test_an_exception(self):
        store = some_store()
        before = told(store)

        def steps(held):
            upset(held)
            held.lose('no point')

        with self.assertRaises(KeepError) as caught:
            tried(store, steps)
        self.assertEqual(caught.exception.value, 'no point')
        self.assertEqual(told(store), before)

    def test_one_within_another(self):
        store = some_store()
        before = told(store)

        def inner(held):
            held.advance(5)
            return held.tick

        def outer(held):
            held.advance(1)
            return (tried(held, inner), held.tick)

        self.assertEqual(tried(store, outer), (13, 8))
        self.assertEqual(told(store), before)


if __name__ == '__main__':
    unittest.main()
