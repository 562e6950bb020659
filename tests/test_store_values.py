"""Stores: point [11], for any value that point [2] names; behind an error nothing is changed."""

import copy
import unittest

from rulerkeep.errors import BadAge, BadTicks, NotKept
from rulerkeep.rules import Rule
from rulerkeep.store import Store
from tests.plain import NOT_NATURAL
from tests.plain_store import told

MOST = 10 ** 18

# Values that hold what would be right alone.
WRAPPED = (
    (5,), [5], {5: 5}, '5', (5, 7), [[5]], ((5,),), {'age': 5}, (5, (5, [5])), '05', ' 5', '0b101', (5, None),
    [5, True],
)
WRONG = NOT_NATURAL + WRAPPED
TOO_GREAT = (MOST + 1, 2 * MOST, 10 ** 19, 10 ** 40)


def some_store():
    store = Store(Rule(0, 2, 8), tick=7)
    store.change(Rule(5))
    store.lose(4)
    return store


class Values(unittest.TestCase):
    def check(self, error, value, call):
        """Whether a call with a value raises an error that holds it, and leaves the value as it is."""
        before = copy.deepcopy(value)
        with self.assertRaises(error) as caught:
            call(value)
        self.assertIs(type(caught.exception), error)
        self.assertIs(caught.exception.value, value)
        self.assertEqual(repr(value), repr(before))

    def check_method(self, error, name, values):
        store = some_store()
        before = told(store)
        for value in values:
            with self.subTest(name=name, value=str(value)[:40]):
                self.check(error, value, getattr(store, name))
                self.assertEqual(told(store), before)

    def test_the_tick_of_a_store(self):
        for value in WRONG + TOO_GREAT:
            with self.subTest(str(value)[:40]):
                self.check(BadTicks, value, lambda tick: Store(Rule(3), tick=tick))

    def test_ticks_that_are_right(self):
        for tick in (0, 1, 7, MOST - 1, MOST):
            self.assertEqual(Store(Rule(3), tick=tick).tick, tick)

    def test_advance(self):
        self.check_method(BadTicks, 'advance', WRONG + TOO_GREAT)

    def test_lose(self):
        self.check_method(NotKept, 'lose', WRONG + TOO_GREAT + (1, 3, 4, 5, 7, 8, MOST))

    def test_restore(self):
        self.check_method(BadAge, 'restore', WRONG + TOO_GREAT + (8, 9, MOST))

    def test_distance(self):
        self.check_method(BadAge, 'distance', WRONG + TOO_GREAT + (8, 9, MOST))

    def test_ages_that_are_right(self):
        store = some_store()
        self.assertEqual([store.restore(0), store.restore(1), store.restore(2), store.restore(7)], [6, 6, None, None])
        self.assertEqual([store.distance(0), store.distance(1), store.distance(7)], [1, 0, None])
        self.check_method(BadAge, 'restore', (8,))

    def test_ages_at_the_tick_0(self):
        store = Store(Rule(5))
        self.assertEqual([store.restore(0), store.distance(0)], [0, 0])
        for value in (1, True, False, -1):
            self.check(BadAge, value, store.restore)
            self.check(BadAge, value, store.distance)

    def test_membership(self):
        store = some_store()
        before = told(store)
        for value in WRONG + TOO_GREAT + (0, 1, 4, 7, 8, MOST):
            held = copy.deepcopy(value)
            self.assertIs(value in store, False, value)
            self.assertEqual(repr(value), repr(held))
        self.assertEqual(told(store), before)
        self.assertIs(6 in store, True)

    def test_bools_are_no_points(self):
        store = Store(Rule(None), tick=3)
        self.assertEqual([0 in store, 1 in store, True in store, False in store], [True, True, False, False])
        for value in (True, False):
            self.check(NotKept, value, store.lose)
        self.assertEqual(store.points(), (0, 1, 2, 3))

    def test_an_empty_store(self):
        store = Store(Rule(0), tick=5)
        for value in WRONG + (0, 1, 5, 6):
            self.assertIs(value in store, False)
            self.check(NotKept, value, store.lose)


if __name__ == '__main__':
    unittest.main()
