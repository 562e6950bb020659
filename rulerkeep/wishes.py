"""Wishes: which distances a rule is to have at most, and the rules that have them."""

from rulerkeep.averages import points_in_all
from rulerkeep.errors import TooMany, TooWide
from rulerkeep.naturals import at_most, is_pair
from rulerkeep.points import distance
from rulerkeep.rules import Reckoned, Rule
from rulerkeep.worst import promised, worst, worst_tick

MOST_STEPS = 12
GREATEST = 10 ** 18
MOST_LISTED_STEPS = 4
GREATEST_LISTED_DISTANCE = 63


def is_wish(value):
    """Whether any value is a wish."""
    if not isinstance(value, tuple) or not 1 <= len(value) <= MOST_STEPS:
        return False
    if not all([_is_step(step) for step in value]):
        return False
    return all([step[0] < later[0] and step[1] < later[1] for step, later in zip(value, value[1:])])


def meets(rule, wish):
    """Whether a rule meets a wish."""
    # The worst distance never falls with the age, so each step is met if it is met at its last age.
    return all([at_most(worst(rule, age), wished) for age, wished in wish])


def first_broken(rule, wish):
    """None if a rule meets a wish, otherwise (age, tick): the least age at which it does not, and a tick to show it."""
    # A greater distance is not exceeded before a lesser one is: so what breaks a step lies behind those that are met.
    for age, wished in wish:
        broken = _first_beyond(rule, wished)
        if at_most(broken, age):
            return (broken, worst_tick(rule, broken))
    return None


def shows_broken(rule, wish, value):
    """Whether any value is a tuple (age, tick) which shows that a rule does not meet a wish."""
    if not is_pair(value):
        return False
    age, tick = value
    if age > wish[-1][0] or tick < age:
        return False
    wished = [limit for last, limit in wish if age <= last][0]
    return not at_most(distance(rule, tick, age), wished)


def least_lives(wish):
    """The ascending tuple of the lives of all least rules of a wish."""
    if len(wish) > MOST_LISTED_STEPS:
        raise TooMany(len(wish))
    if wish[-1][1] > GREATEST_LISTED_DISTANCE:
        raise TooWide(wish[-1][1])
    plans = [()]
    for age, wished in wish:
        plans = _longer(plans, age, wished)
    rules = [Rule(Reckoned(plan)) for plan in plans]
    # No two plans are equal, so a rule that has no other one below it finds itself alone.
    least = [rule.lives for rule in rules if len([other for other in rules if other <= rule]) == 1]
    return tuple(_ascending(least))


def cheapest(wish):
    """A rule that meets a wish and has the least average of all that do."""
    zeros = _widest(wish[-1][1])
    plans = [()]
    for age, wished in wish:
        of_length = {}
        for plan in _longer(plans, age, wished):
            of_length.setdefault(len(plan), []).append(plan)
        # Plans of one length have the same last life, and later steps change nothing ahead of it.
        plans = [_cheapest_plan(some, zeros) for some in of_length.values()]
    return Rule(Reckoned(_cheapest_plan(plans, zeros)))


def _is_step(value):
    """Whether any value is a step of a wish."""
    return is_pair(value) and value[0] <= GREATEST and value[1] <= GREATEST


def _first_beyond(rule, wished):
    """The least age at which the worst distance is greater than wished, or is None; None if there is no such age."""
    reach = -1
    for age, promise in promised(rule):
        if promise <= wished:
            reach = age
    return None if reach is None else reach + 1


def _widest(wished):
    """The greatest rank whose points lie close enough together for a distance."""
    return (wished + 1).bit_length() - 1


def _longer(plans, age, wished):
    """The plans with one step more, in each way: the last rank of the plan is to meet it, or a greater one.

    A plan is lives that meet the steps so far, none of them longer than that takes.
    """
    # A lower rank is not tried: to meet this step it must live long enough for the earlier ones, too, so that nothing
    # is lost in the plan in which it meets those as well.
    longer = []
    for plan in plans:
        for at in range(max(0, len(plan) - 1), _widest(wished) + 1):
            last = plan[-1] if plan else 0
            between = (last,) * (at - len(plan))
            longer.append(plan[:at] + between + (age + (1 << at),))
    return longer


def _cheapest_plan(plans, zeros):
    """The plan with the fewest points in 2 ** zeros ticks."""
    best = plans[0]
    fewest = points_in_all(best, zeros)
    for plan in plans:
        points = points_in_all(plan, zeros)
        if points < fewest:
            best, fewest = plan, points
    return best


def _ascending(rows):
    """The rows in ascending order, none of which is there twice."""
    # `sorted` is kept for numbers and strings, since rules have an order of their own.
    found = []
    for row in rows:
        lesser_ones = len([other for other in found if other < row])
        found.insert(lesser_ones, row)
    return found
