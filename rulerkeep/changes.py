"""What a change of the rule does to the kept points."""

from rulerkeep.naturals import at_most, greater
from rulerkeep.rules import side_by_side


def changed(old, new, since):
    """The rule by which the kept points are those of a rule, so many ticks behind the change from old to new."""
    # Of the points up to the change just those that old had kept are now younger than their lives by old and these
    # ticks together. So are all points that were made since then.
    return new & (old + since)


def after_changes(first, *changes):
    """The same rule where first was in force from the beginning, and then the rule of each pair for its ticks."""
    rule = first
    for following, ticks in changes:
        rule = changed(rule, following, ticks)
    return rule


def settled(old, new):
    """The least number of ticks behind which changed returns new, from then on, or None."""
    ticks = 0
    for before, after in side_by_side(old.lives, new.lives):
        if not at_most(after, before):
            if after is None:
                return None
            ticks = greater(ticks, after - before)
    return ticks
