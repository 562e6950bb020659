"""What the document says, word by word and slowly: the tests hold the program against it."""

from itertools import combinations_with_replacement


def zeros(point):
    """The zeros at the end of a point's tick, read off its digits; None for the point 0."""
    if point == 0:
        return None
    digits = bin(point)[2:]
    return len(digits) - len(digits.rstrip('0'))


def life(lives, at):
    return lives[min(at, len(lives) - 1)]


def keeps(lives, point, tick):
    """Whether a rule with these lives keeps the point at the tick."""
    if point > tick:
        return False
    own = lives[-1] if point == 0 else life(lives, zeros(point))
    return own is None or tick - point < own


def distance(lives, tick, age):
    """The distance at a tick, None without a restore point."""
    for point in range(tick - age, -1, -1):
        if keeps(lives, point, tick):
            return tick - point - age
    return None


def worst(lives, age):
    """The worst distance over so many ticks that all others only repeat them."""
    longest = max([own for own in lives if own is not None], default=0)
    beyond = age + longest + 4 * 2 ** len(lives)
    distances = [distance(lives, tick, age) for tick in range(age, beyond)]
    return None if None in distances else max(distances)


def all_lives(most_lives, longest):
    """All lives up to a number of lives and a longest life, each with and without a last life of None."""
    found = [(None,)]
    for many in range(1, most_lives + 1):
        for lives in combinations_with_replacement(range(longest + 1), many):
            found.append(lives)
            if many < most_lives:
                found.append(lives + (None,))
    return found


def nested(depth, wrap):
    value = 1
    for _ in range(depth):
        value = wrap(value)
    return value


# Values of every kind that point [2] names, none of them an integer from 0.
NOT_NATURAL = (
    True, False, None, -1, -2, -10 ** 18, -10 ** 19, '', '0', '5', 'x y', '-', (), (0,), (1, 2, 3), (None,), [], [0],
    [1, 2], {}, {0: 1}, {'lives': (1, 2)}, (1, [2, (3, {'a': None})]), [[], ()],
    nested(30, lambda value: (value,)), nested(30, lambda value: [value]), nested(30, lambda value: {'x': value}),
)
