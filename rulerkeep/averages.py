"""How many points a rule keeps: on average, and at most."""

from math import gcd

from rulerkeep.points import kept_count


def average(rule):
    """The average number of kept points as (points, ticks) in lowest terms; None if the last life is None."""
    lives = rule.lives
    if lives[-1] is None:
        return None
    zeros = len(lives) - 1
    points, ticks = points_in_all(lives, zeros), 1 << zeros
    shared = gcd(points, ticks)
    return (points // shared, ticks // shared)


def most(rule):
    """(count, tick): the greatest number of points at any tick, and such a tick; None if the last life is None."""
    lives = rule.lives
    if lives[-1] is None:
        return None
    tick = _late_tick(lives, _fullest_end(lives))
    return (kept_count(rule, tick), tick)


def points_in_all(lives, zeros):
    """How many points 2 ** zeros ticks in a row have in all, from the tick on that is the last life.

    The lives are integers, and zeros is at least the rank of the last one.
    """
    # Of 2 ** zeros points in a row one half has the rank 0, one half of the others the rank 1, and so on; all that
    # is left at the last life has this one.
    last = len(lives) - 1
    total = lives[last] << (zeros - last)
    for at in range(last):
        total = total + (lives[at] << (zeros - 1 - at))
    return total


def _late_tick(lives, end):
    """The first tick with this end, modulo 2 ** k, that is late: not less than any life, so that no point lacks."""
    period = 1 << (len(lives) - 1)
    return lives[-1] + (end - lives[-1]) % period


def _fullest_end(lives):
    """The end of the fullest late tick, that is, this tick modulo 2 ** k."""
    # Between the lives of the ranks j - 1 and j there are at a late tick as many points as at least or one more, which
    # depends on the tick modulo 2 ** j. Whether greater ranks can have one more depends only on where this end stands
    # among the lives modulo 2 ** j. So of the ends in the same place one is enough, if it has gained the most so far,
    # and there are hardly more places than lives.
    ends = [(0, 0)]
    for at in range(1, len(lives)):
        best = {}
        for gained, end in ends:
            for longer in (end, end + (1 << (at - 1))):
                place = _place(lives, at, longer)
                total = gained + _gain(lives, at, longer)
                if place not in best or best[place][0] < total:
                    best[place] = (total, longer)
        ends = list(best.values())
    fullest = ends[0]
    for gained, end in ends:
        if fullest[0] < gained:
            fullest = (gained, end)
    return fullest[1]


def _gain(lives, at, end):
    """1 if late ticks with this end have one more point between the lives of a rank and the one below, else 0."""
    step = 1 << at
    beyond = (lives[at] - lives[at - 1]) % step
    return 1 if (end - lives[at - 1]) % step < beyond else 0


def _place(lives, at, end):
    """Where an end modulo 2 ** at stands among the lives from this rank on, modulo 2 ** at."""
    step = 1 << at
    return len([life for life in lives[at:] if life % step <= end])
