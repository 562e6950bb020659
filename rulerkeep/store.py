"""Live stores: points that are made, deleted and lost while ticks pass and rules change."""

from rulerkeep.changes import changed
from rulerkeep.errors import BadAge, BadTicks, NotKept, OtherTick, TooMany
from rulerkeep.naturals import is_natural
from rulerkeep.points import kept, kept_count, restore_point

MOST_TICKS = 10 ** 18
MOST_LISTED_POINTS = 2000


class Store:
    """A live store: the points that its rules have kept so far, without those that it has lost."""

    # Behind any number of changes and joins the points are those of one rule, _kept, less the lost ones. At each rank
    # its life is at most that of the rule in force, _rule, towards which it grows as ticks pass. _lost has only points
    # that _kept keeps now: since no deleted point comes back, the others need not be known any longer.

    def __init__(self, rule, *, tick=0):
        if not _are_ticks(tick):
            raise BadTicks(tick)
        self._tick = tick
        self._rule = rule
        self._kept = rule
        self._lost = {}

    @property
    def tick(self):
        """The tick that it is."""
        return self._tick

    @property
    def rule(self):
        """The rule in force."""
        return self._rule

    def size(self):
        """How many points the store has."""
        return kept_count(self._kept, self._tick) - len(self._lost)

    def advance(self, ticks):
        """Let so many ticks pass, each with its point."""
        if not _are_ticks(ticks):
            raise BadTicks(ticks)
        self._tick = self._tick + ticks
        self._kept = changed(self._kept, self._rule, ticks)
        self._forget_deleted()

    def change(self, rule):
        """Put another rule in force."""
        self._rule = rule
        self._kept = changed(self._kept, rule, 0)
        self._forget_deleted()

    def lose(self, point):
        """Lose a point for good."""
        if point not in self:
            raise NotKept(point)
        self._lost[point] = True

    def restore(self, age):
        """The restore point for an age, or None."""
        if not is_natural(age) or age > self._tick:
            raise BadAge(age)
        point = restore_point(self._kept, self._tick, age)
        while point in self._lost:
            point = restore_point(self._kept, self._tick, self._tick - point + 1)
        return point

    def distance(self, age):
        """By how much the restore point for an age is older than this age, or None."""
        point = self.restore(age)
        return None if point is None else self._tick - age - point

    def points(self):
        """The ascending tuple of the points of the store."""
        many = self.size()
        if many > MOST_LISTED_POINTS:
            raise TooMany(many)
        return tuple([point for point in kept(self._kept, self._tick) if point not in self._lost])

    def __contains__(self, x):
        """Whether any value is a point that the store has."""
        return (x, self._tick) in self._kept and x not in self._lost

    def joined(self, other):
        """A new store of the same tick with the points of both stores, and the greater lives of both rules in force."""
        if other.tick != self._tick:
            raise OtherTick(other.tick)
        both = self.clone()
        both._rule = self._rule | other._rule
        both._kept = self._kept | other._kept
        mine = _without_those_of(self._lost, other)
        its = _without_those_of(other._lost, self)
        both._lost = {**mine, **its}
        return both

    def clone(self):
        """An independent store with the same content."""
        # The tick is set behind the making, since it may be above those that a caller may hand in.
        twin = Store(self._rule)
        twin._tick = self._tick
        twin._kept = self._kept
        twin._lost = dict(self._lost)
        return twin

    def _forget_deleted(self):
        """Leave out the lost points that would be deleted by now."""
        self._lost = {point: True for point in self._lost if (point, self._tick) in self._kept}


class Saved:
    """The content of a store, as a store of its own, and what was saved ahead of it."""

    def __init__(self, content, ahead):
        self.content = content
        self.ahead = ahead


class Trial:
    """A context manager: when its block ends, the store is as it was when the block began."""

    def __init__(self, store):
        self._store = store
        # One behind another, since a block of this trial may stand within another one of it.
        self._saved = None

    def __enter__(self):
        self._saved = Saved(self._store.clone(), self._saved)
        return self._store

    def __exit__(self, kind, value, trace):
        self._store._tick = self._saved.content._tick
        self._store._rule = self._saved.content._rule
        self._store._kept = self._saved.content._kept
        self._store._lost = self._saved.content._lost
        self._saved = self._saved.ahead


def tried(store, steps):
    """What the function steps returns for the store, which then is as it was before."""
    with Trial(store) as held:
        return steps(held)


def _are_ticks(value):
    """Whether any value is an integer from 0 to 10 ** 18."""
    return is_natural(value) and value <= MOST_TICKS


def _without_those_of(points, store):
    """The points, as a dict, that a store does not have."""
    return {point: True for point in points if point not in store}
