"""Stores, said slowly: a plain set of points that goes tick by tick through the making and the deleting."""

import random

from rulerkeep.rules import Rule
from rulerkeep.store import Store
from tests import plain


class PlainStore:
    """A store as the document describes it; it takes lives where Store takes a rule."""

    def __init__(self, lives, *, tick=0):
        self.lives = lives
        self.tick = 0
        self.points = {0}
        self.delete()
        self.advance(tick)

    def delete(self):
        self.points = {point for point in self.points if plain.keeps(self.lives, point, self.tick)}

    def advance(self, ticks):
        for _ in range(ticks):
            self.tick += 1
            self.points.add(self.tick)
            self.delete()

    def change(self, lives):
        self.lives = lives
        self.delete()

    def lose(self, point):
        self.points.remove(point)

    def restore(self, age):
        return max([point for point in self.points if self.tick - point >= age], default=None)

    def distance(self, age):
        point = self.restore(age)
        return None if point is None else self.tick - point - age

    def joined(self, other):
        both = self.clone()
        both.points = self.points | other.points
        ranks = max(len(self.lives), len(other.lives))
        longer = [max(pair) for pair in zip(plain.at_ranks(self.lives, ranks), plain.at_ranks(other.lives, ranks))]
        integers = tuple([own for own in longer if own < 10 ** 30])
        both.lives = integers if len(integers) == ranks else integers + (None,)
        return both

    def clone(self):
        twin = PlainStore(self.lives)
        twin.tick = self.tick
        twin.points = set(self.points)
        return twin


def told(store):
    """All that a store of few points says, and what it will say later."""
    later = []
    for ticks in (1, 2, 9):
        twin = store.clone()
        twin.advance(ticks)
        later.append((twin.tick, twin.rule.lives, twin.size(), twin.points()))
    ages = range(store.tick + 1)
    return (
        store.tick, store.rule.lives, store.size(), store.points(), tuple([store.restore(age) for age in ages]),
        tuple([store.distance(age) for age in ages]), later,
    )


def check_same(case, store, model, note=None):
    """Whether a store is as the plain one, in all that one may ask it for."""
    points = sorted(model.points)
    case.assertEqual(store.tick, model.tick, note)
    case.assertEqual(store.rule, Rule(*model.lives), note)
    case.assertEqual(store.points(), tuple(points), note)
    case.assertEqual(store.size(), len(points), note)
    for point in range(model.tick + 3):
        case.assertIs(point in store, point in model.points, note)
    for age in range(model.tick + 1):
        case.assertEqual(store.restore(age), model.restore(age), (note, age))
        case.assertEqual(store.distance(age), model.distance(age), (note, age))


def random_lives(chance):
    """A few small lives, the last one at times None."""
    lives = sorted([chance.randrange(chance.choice((3, 8, 25))) for _ in range(chance.randrange(1, 5))])
    return tuple(lives[:-1] + [None]) if chance.random() < 0.15 else tuple(lives)


def random_pair(chance):
    """A store and the plain one of the same rule and tick."""
    lives, tick = random_lives(chance), chance.choice((0, 0, 1, 7, 30))
    return Store(Rule(*lives), tick=tick), PlainStore(lives, tick=tick)


def step(chance, store, model):
    """Do the same thing with both, and return what it was."""
    points = sorted(model.points)
    kind = chance.choice(('advance', 'advance', 'change', 'lose', 'lose'))
    if kind == 'advance':
        told_in = chance.choice((0, 1, 1, 2, 3, 5, 11))
    elif kind == 'change':
        told_in = random_lives(chance)
    elif points:
        told_in = chance.choice(points)
    else:
        return None
    getattr(store, kind)(Rule(*told_in) if kind == 'change' else told_in)
    getattr(model, kind)(told_in)
    return (kind, told_in)
