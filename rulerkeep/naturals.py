"""Integers from 0, and None, which is greater than all of them."""


def is_natural(value):
    """Whether any value is an integer from 0."""
    return isinstance(value, int) and not isinstance(value, bool) and value >= 0


def is_pair(value):
    """Whether any value is a tuple of two integers from 0."""
    return isinstance(value, tuple) and len(value) == 2 and all([is_natural(part) for part in value])


def at_most(one, other):
    """Whether one is not greater than other."""
    return other is None or (one is not None and one <= other)


def lesser(one, other):
    """The lesser one of both."""
    return one if at_most(one, other) else other


def greater(one, other):
    """The greater one of both."""
    return other if at_most(one, other) else one
