"""Answers for great numbers, by ways other than the program's: rank by rank, or by all ways to meet a wish."""

from fractions import Fraction
from itertools import product

from rulerkeep.ranks import ranked, youngest
from rulerkeep.rules import Rule

# A wish of twelve steps, as great as they can be.
TWELVE = tuple((10 ** 18 - 11 + at, 10 ** 18 - 11 + at) for at in range(12))


def keeps(lives, point, tick):
    """Whether a rule keeps a point at a tick."""
    zeros = len(lives) if point == 0 else (point ^ (point - 1)).bit_length() - 1
    own = lives[min(zeros, len(lives) - 1)]
    return 0 <= point <= tick and (own is None or tick - point < own)


def count_between(lives, tick, low, high):
    """How many points from low to high are kept: of each rank those that are young enough, and the point 0."""
    found = 1 if low == 0 and high >= 0 and keeps(lives, 0, tick) else 0
    for at in range(max(tick.bit_length(), 1)):
        own = lives[min(at, len(lives) - 1)]
        start = 1 if own is None else max(1, tick - own + 1)
        found += ranked(max(low, start), min(high, tick), at)
    return found


def restore_point(lives, tick, age):
    """The greatest kept point of at least this age: of each rank the youngest one, and the point 0."""
    if age > tick:
        return None
    found = [youngest(tick - age, at) for at in range(tick.bit_length())] + [0]
    return max([point for point in found if point is not None and keeps(lives, point, tick)], default=None)


def average(lives):
    """The average number of points: a point of rank j is made each 2 ** (j + 1) ticks."""
    last = len(lives) - 1
    below = sum((Fraction(own, 2 ** (at + 1)) for at, own in enumerate(lives[:-1])), Fraction(0))
    return below + Fraction(lives[-1], 2 ** last)


def all_plans(wish):
    """The least lives of every way to choose, for each step of a wish, a rank that is to meet it."""
    choices = [[at for at in range(70) if 2 ** at - 1 <= limit] for _, limit in wish]
    for chosen in product(*choices):
        yield tuple([
            max([age + 2 ** its for (age, _), its in zip(wish, chosen) if its <= at], default=0)
            for at in range(max(chosen) + 1)
        ])


def great_wish(chance, many):
    ages = sorted({chance.randrange(10 ** chance.randrange(2, 19)) for _ in range(3 * many)})
    distances = sorted({chance.randrange(10 ** chance.randrange(2, 19)) for _ in range(3 * many)})
    return tuple(zip(sorted(chance.sample(ages, many)), sorted(chance.sample(distances, many))))


def great_rule(chance):
    many = chance.randrange(1, 62)
    lives = sorted([chance.randrange(10 ** chance.randrange(1, 19)) for _ in range(many)])
    return Rule(*lives[:-1], chance.choice((None, 10 ** 18, lives[-1])))
