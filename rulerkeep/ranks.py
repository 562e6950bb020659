"""Ranks: the number of zeros at the end of a point's tick, written in binary."""


def rank(point):
    """The rank of a point, None for the point 0."""
    if point == 0:
        return None
    return (point & -point).bit_length() - 1


def youngest(tick, rank):
    """The greatest point up to a tick that has just this rank, or None."""
    # Asked first, since a rank may be far too great to shift a point up by it.
    if rank >= tick.bit_length():
        return None
    steps = tick >> rank
    odd_steps = steps if steps & 1 else steps - 1
    return odd_steps << rank


def ranked(low, high, rank):
    """How many points from low to high, both included, have just this rank."""
    if low > high:
        return 0
    return _ranked_up_to(high, rank) - _ranked_up_to(low - 1, rank)


def _ranked_up_to(tick, rank):
    """How many points up to a tick have just this rank; none up to the tick -1."""
    # These points are the odd multiples of the least one; -1 stays -1 however far it is shifted.
    return ((tick >> rank) + 1) // 2
