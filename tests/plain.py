"""What the document says, word by word and slowly: the tests hold the program against it."""

from fractions import Fraction
from itertools import combinations_with_replacement


def zeros(point):
    """The zeros at the end of a point's tick, read off its digits; None for the point 0."""
    if point == 0:
        return None
    digits = bin(point)[2:]
    return len(digits) - len(digits.rstrip('0'))


def life(lives, at):
    return lives[min(at, len(lives) - 1)]


def keeps(lives, point, tick):
    """Whether a rule with these lives keeps the point at the tick."""
    if point > tick:
        return False
    own = lives[-1] if point == 0 else life(lives, zeros(point))
    return own is None or tick - point < own


def kept(lives, tick):
    """All points that are kept at a tick."""
    return [point for point in range(tick + 1) if keeps(lives, point, tick)]


def restore_point(lives, tick, age):
    for point in range(tick - age, -1, -1):
        if keeps(lives, point, tick):
            return point
    return None


def distance(lives, tick, age):
    """The distance at a tick, None without a restore point."""
    point = restore_point(lives, tick, age)
    return None if point is None else tick - point - age


def longest(lives):
    """The longest life that is an integer."""
    return max([own for own in lives if own is not None], default=0)


def distances(lives, age):
    """The distances at an age, (tick, distance), at so many ticks that all others only repeat them."""
    beyond = age + longest(lives) + 4 * 2 ** len(lives)
    return [(tick, distance(lives, tick, age)) for tick in range(age, beyond)]


def worst(lives, age):
    """The worst distance at an age."""
    found = [one for _, one in distances(lives, age)]
    return None if None in found else max(found)


def worse(one, other):
    """Whether a distance is greater than another one, None being the greatest."""
    return one is None or one > other


def wished(wish, age):
    """The distance that a wish names for an age up to the last one."""
    return min([step for step in wish if age <= step[0]])[1]


def meets(lives, wish):
    """Whether a rule meets a wish, at all ages up to the last one and at all ticks."""
    return not any(worse(worst(lives, age), wished(wish, age)) for age in range(wish[-1][0] + 1))


def at_ranks(lives, ranks):
    """The lives of all ranks below a number, None as an integer beyond all others."""
    return [10 ** 30 if own is None else own for own in [life(lives, at) for at in range(ranks)]]


def below(one, other):
    """Whether the rule with the lives one is <= that with the lives other."""
    ranks = max(len(one), len(other))
    return all(mine <= its for mine, its in zip(at_ranks(one, ranks), at_ranks(other, ranks)))


def average(lives):
    """The average number of points, from going through as many ticks as repeat themselves, behind the last life."""
    ticks = 2 ** (len(lives) - 1)
    points = sum(len(kept(lives, tick)) for tick in range(lives[-1], lives[-1] + ticks))
    return Fraction(points, ticks)


def all_lives(most_lives, longest):
    """All lives up to a number of lives and a longest life, each with and without a last life of None."""
    found = [(None,)]
    for many in range(1, most_lives + 1):
        for lives in combinations_with_replacement(range(longest + 1), many):
            found.append(lives)
            if many < most_lives:
                found.append(lives + (None,))
    return found


def nested(depth, wrap):
    value = 1
    for _ in range(depth):
        value = wrap(value)
    return value


# Values of every kind that point [2] names, none of them an integer from 0.
NOT_NATURAL = (
    True, False, None, -1, -2, -10 ** 18, -10 ** 19, '', '0', '5', 'x y', '-', (), (0,), (1, 2, 3), (None,), [], [0],
    [1, 2], {}, {0: 1}, {'lives': (1, 2)}, (1, [2, (3, {'a': None})]), [[], ()],
    nested(30, lambda value: (value,)), nested(30, lambda value: [value]), nested(30, lambda value: {'x': value}),
)
