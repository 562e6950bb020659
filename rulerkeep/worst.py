"""The worst distance at each age, over all ticks."""

from rulerkeep.naturals import at_most, is_natural
from rulerkeep.points import distance


def worst(rule, age):
    """The worst distance at an age, or None."""
    return rule(age)


def worst_tick(rule, age):
    """The first tick at which the worst distance at an age occurs; if it is None, a tick without a restore point."""
    found = worst(rule, age)
    if found is None:
        # That it is None means that no rank j has a life greater than age + 2 ** j - 1. At this tick the youngest
        # point of rank j or more that is old enough has just this age.
        found = (1 << (len(rule.lives) - 1)) - 1
    return age + found


def shows_worst(rule, age, value):
    """Whether any value is a tick, from the age on, at which the distance is the worst distance."""
    return is_natural(value) and age <= value and distance(rule, value, age) == worst(rule, age)


def promised(rule):
    """For each worst distance the greatest age that has it, as (age, distance), ascending.

    The age is None if all greater ages have the worst distance, too.
    """
    found = []
    reach = -1
    step = 1
    for life in rule.lives:
        farther = None if life is None else life - step
        if not at_most(farther, reach):
            found.append((farther, step - 1))
            reach = farther
        step = 2 * step
    return tuple(found)
