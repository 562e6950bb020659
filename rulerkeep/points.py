"""The points that a rule keeps at a tick, and the one that a restore to an age uses."""

from rulerkeep.naturals import at_most, greater, lesser


def kept(rule, tick):
    """All points that are kept at a tick, ascending, one by one."""
    for low, high, step in _bands(rule, tick)[::-1]:
        for point in range(low + (-low) % step, high + 1, step):
            yield point


def kept_count(rule, tick):
    """How many points are kept at a tick."""
    return kept_between(rule, tick, 0, tick)


def kept_between(rule, tick, low, high):
    """How many points from low to high, both included, are kept at a tick."""
    bands = _bands(rule, tick)
    return sum([_multiples(greater(low, first), lesser(high, last), step) for first, last, step in bands])


def restore_point(rule, tick, age):
    """The greatest kept point of at least this age, or None."""
    for low, high, step in _bands(rule, tick):
        latest = lesser(high, tick - age)
        point = latest - latest % step
        if low <= point:
            return point
    return None


def distance(rule, tick, age):
    """By how much the restore point for an age is older than this age, or None."""
    point = restore_point(rule, tick, age)
    return None if point is None else tick - age - point


def _bands(rule, tick):
    """The bands (low, high, step) of the kept points, the youngest first.

    From low to high just the multiples of step are kept; there are none if low is above high.
    """
    # No rank lives shorter than the one below it. So where the life of the rank j - 1 is over and that of the rank j
    # is not, the points of rank j and beyond are left, which are the multiples of 2 ** j.
    bands = []
    step, high = 1, tick
    for life in rule.lives:
        low = 0 if at_most(tick + 1, life) else tick + 1 - life
        bands.append((low, high, step))
        step, high = 2 * step, low - 1
    return bands


def _multiples(low, high, step):
    """How many multiples of step there are from low to high, both included."""
    if low > high:
        return 0
    return high // step - (low - 1) // step
