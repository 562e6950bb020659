"""Rules: a life for each rank."""

from rulerkeep.errors import BadLives, BadRank
from rulerkeep.naturals import at_most, greater, is_natural, is_pair, lesser
from rulerkeep.ranks import rank

LONGEST_LIFE = 10 ** 18


def shortest(lives):
    """The shortest lives with the same meaning: without those at the end that repeat the one ahead."""
    length = len(lives)
    while length > 1 and lives[length - 1] == lives[length - 2]:
        length -= 1
    return lives[:length]


def life_at(lives, at):
    """The life of the rank at, which may lie beyond the last life."""
    return lives[at] if at < len(lives) else lives[-1]


def life_of(lives, point):
    """The life of a point."""
    zeros = rank(point)
    return lives[-1] if zeros is None else life_at(lives, zeros)


def side_by_side(lives, others):
    """The pairs of both lives at each rank, as far as one of them goes."""
    return [(life_at(lives, at), life_at(others, at)) for at in range(max(len(lives), len(others)))]


class Reckoned:
    """Lives that were reckoned from other lives; Rule takes them in place of lives.

    They may be greater than LONGEST_LIFE, which holds only for lives that a caller hands in.
    """

    def __init__(self, found):
        self.found = found


class Rule:
    """A life for each rank; the last one for all ranks beyond, and for the point 0."""

    MOST_LIVES = 61

    def __init__(self, *lives):
        reckoned = len(lives) == 1 and isinstance(lives[0], Reckoned)
        if not reckoned and not Rule.are_lives(lives):
            raise BadLives(lives)
        self._lives = shortest(lives[0].found if reckoned else lives)

    @staticmethod
    def are_lives(value):
        """Whether any value is lives."""
        if not isinstance(value, tuple) or not 1 <= len(value) <= Rule.MOST_LIVES:
            return False
        integers = value[:-1] if value[-1] is None else value
        if not all([is_natural(life) and life <= LONGEST_LIFE for life in integers]):
            return False
        return all([life <= following for life, following in zip(integers, integers[1:])])

    @classmethod
    def of(cls, lives):
        """The rule with these lives."""
        if not cls.are_lives(lives):
            raise BadLives(lives)
        return Rule(*lives)

    @property
    def lives(self):
        """The shortest lives with the same meaning."""
        return self._lives

    def __len__(self):
        return len(self._lives)

    def __eq__(self, other):
        return isinstance(other, Rule) and self._lives == other._lives

    def __getitem__(self, at):
        if not is_natural(at):
            raise BadRank(at)
        return life_at(self._lives, at)

    def __iter__(self):
        # Without this, `for` would walk rule[0], rule[1] and so on without an end.
        raise TypeError("a rule is not walked by for")

    def __bool__(self):
        # The last life is the greatest.
        return bool(self._lives[-1] != 0)

    def __call__(self, age):
        """The worst distance at an age, or None."""
        # Every 2 ** j ticks there is a point of rank j or more, so if it lives long enough, no distance is greater
        # than 2 ** j - 1; with a j as small as can be, this one occurs.
        step = 1
        for life in self._lives:
            if at_most(age + step, life):
                return step - 1
            step = 2 * step
        return None

    def __contains__(self, x):
        """Whether any value is a tuple (point, tick), and the rule keeps the point at the tick."""
        if not is_pair(x):
            return False
        point, tick = x
        return point <= tick and not at_most(life_of(self._lives, point), tick - point)

    def __or__(self, other):
        pairs = side_by_side(self._lives, other._lives)
        return Rule(Reckoned(tuple([greater(one, another) for one, another in pairs])))

    def __and__(self, other):
        pairs = side_by_side(self._lives, other._lives)
        return Rule(Reckoned(tuple([lesser(one, another) for one, another in pairs])))

    def __add__(self, other):
        return Rule(Reckoned(tuple([None if life is None else life + other for life in self._lives])))

    def __le__(self, other):
        pairs = side_by_side(self._lives, other._lives)
        return all([at_most(one, another) for one, another in pairs])
