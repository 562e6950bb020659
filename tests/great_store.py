"""Stores for great numbers, by a way other than the program's.

Of each rank there stand all points from a least one on: what has been deleted is all that is older. This least one is
an absolute point, not a life, and goes up only.
"""

from rulerkeep.ranks import rank, ranked, youngest

# Beyond the ranks of all points that a test has; it stands for the point 0.
RANKS = 80


class GreatStore:
    """What Store is, for lives and any numbers of ticks."""

    def __init__(self, lives, tick=0):
        self.tick = tick
        self.lives = lives
        self.least = [0] * (RANKS + 1)
        self.lost = set()
        self.delete()

    def delete(self):
        for at in range(RANKS + 1):
            own = self.lives[min(at, len(self.lives) - 1)]
            if own is not None:
                self.least[at] = max(self.least[at], self.tick - own + 1)

    def advance(self, ticks):
        self.tick += ticks
        self.delete()

    def change(self, lives):
        self.lives = lives
        self.delete()

    def has(self, point):
        at = RANKS if point == 0 else rank(point)
        return self.least[at] <= point <= self.tick and point not in self.lost

    def lose(self, point):
        self.lost.add(point)

    def standing(self):
        """How many points stand that are not deleted, be they lost or not."""
        zero = 1 if self.least[RANKS] <= 0 else 0
        return zero + sum([ranked(max(1, self.least[at]), self.tick, at) for at in range(RANKS)])

    def size(self):
        return self.standing() - len([1 for point in self.lost if self.least[at_of(point)] <= point])

    def restore(self, age):
        found = [0] if self.has(0) else []
        for at in range(RANKS):
            point = youngest(self.tick - age, at)
            while point is not None and point in self.lost:
                point = point - 2 ** (at + 1) if point > 2 ** (at + 1) else None
            if point is not None and self.has(point):
                found.append(point)
        return max(found, default=None)

    def joined(self, other):
        both = self.clone()
        both.least = [min(pair) for pair in zip(self.least, other.least)]
        ranks = range(max(len(self.lives), len(other.lives)))
        pairs = [(self.lives[min(at, len(self.lives) - 1)], other.lives[min(at, len(other.lives) - 1)]) for at in ranks]
        integers = tuple([max(pair) for pair in pairs if None not in pair])
        both.lives = integers if len(integers) == len(pairs) else integers + (None,)
        lost = {point for point in self.lost if not other.has(point)}
        both.lost = lost | {point for point in other.lost if not self.has(point)}
        return both

    def clone(self):
        twin = GreatStore(self.lives, self.tick)
        twin.least = list(self.least)
        twin.lost = set(self.lost)
        return twin


def at_of(point):
    """The place of a point in the list of least ones."""
    return RANKS if point == 0 else rank(point)
