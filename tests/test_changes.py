"""Changes of the rule: point [10], and [3] (d)."""

import random
import unittest

from rulerkeep.changes import after_changes, changed, settled
from rulerkeep.points import kept, kept_count
from rulerkeep.rules import Rule
from tests import plain
from tests.great import great_rule
from tests.great_store import GreatStore
from tests.plain_store import PlainStore, random_lives

MOST = 10 ** 18
SMALL = plain.all_lives(2, 4) + [(0, 0, 3), (0, 2, 8), (1, 3, 6), (0, 0, None), (4, 4, 8), (0, 1, 1, 9)]


def least_settled(old, new):
    """By trying: from which ticks on the change leaves just the new rule, None if it never does."""
    far = plain.longest(new) + 1
    if changed(Rule(*old), Rule(*new), far) != Rule(*new):
        return None
    return max([ticks + 1 for ticks in range(far) if changed(Rule(*old), Rule(*new), ticks) != Rule(*new)], default=0)


class Changed(unittest.TestCase):
    def test_tick_by_tick(self):
        for old in SMALL:
            for new in SMALL:
                for tick in (0, 1, 6, 11):
                    model = PlainStore(old, tick=tick)
                    model.change(new)
                    for since in range(10):
                        rule = changed(Rule(*old), Rule(*new), since)
                        self.assertEqual(list(kept(rule, tick + since)), sorted(model.points), (old, new, tick, since))
                        model.advance(1)

    def test_lives_by_the_formula(self):
        for old in SMALL:
            for new in SMALL:
                for since in (0, 1, 3, 20):
                    rule = changed(Rule(*old), Rule(*new), since)
                    pairs = zip(plain.at_ranks(new, 5), plain.at_ranks(old, 5))
                    wanted = [min(own, before + since) for own, before in pairs]
                    self.assertEqual(plain.at_ranks(rule.lives, 5), wanted, (old, new, since))

    def test_a_change_for_0_ticks(self):
        self.assertEqual(changed(Rule(0, 2, 8), Rule(4, 4, 8), 0).lives, (0, 2, 8))
        self.assertEqual(changed(Rule(8), Rule(0, 3), 0).lives, (0, 3))
        self.assertEqual(changed(Rule(5), Rule(5), 0).lives, (5,))

    def test_lives_of_none(self):
        self.assertEqual(changed(Rule(None), Rule(3), 0).lives, (3,))
        self.assertEqual(changed(Rule(None), Rule(0, None), 7).lives, (0, None))
        self.assertEqual(changed(Rule(3), Rule(None), 0).lives, (3,))
        self.assertEqual(changed(Rule(3), Rule(None), MOST).lives, (MOST + 3,))
        self.assertEqual(changed(Rule(0, 2), Rule(1, None), 5).lives, (1, 7))
        self.assertEqual(changed(Rule(0, None), Rule(None), 5).lives, (5, None))

    def test_lives_of_0(self):
        self.assertEqual(changed(Rule(0), Rule(5), 3).lives, (3,))
        self.assertEqual(changed(Rule(5), Rule(0), 3).lives, (0,))

    def test_great_numbers_and_results_passed_in_again(self):
        chance = random.Random(101)
        for _ in range(100):
            old, new = great_rule(chance), great_rule(chance)
            since = chance.randrange(10 ** chance.randrange(1, 19))
            for one, other in ((old, new), (old + MOST, new), (old, new + MOST), (old + MOST, new + MOST)):
                self.check_great(one, other, since)
            self.check_great(old + old[0], changed(old, new, MOST), old[5] or MOST)

    def check_great(self, old, new, since):
        found = changed(old, new, since)
        for at in range(63):
            lives = [own for own in (new[at], None if old[at] is None else old[at] + since) if own is not None]
            self.assertEqual(found[at], min(lives, default=None))

    def test_arguments_by_name(self):
        old, new = Rule(0, 2, 8), Rule(4, 4, 8)
        self.assertEqual(changed(since=1, new=new, old=old).lives, (1, 3, 8))
        self.assertEqual(settled(new=new, old=old), 4)
        self.assertEqual([old.lives, new.lives], [(0, 2, 8), (4, 4, 8)])
        self.assertEqual(after_changes(first=Rule(8)).lives, (8,))


class AfterChanges(unittest.TestCase):
    def test_tick_by_tick(self):
        chance = random.Random(102)
        for _ in range(400):
            first, tick = random_lives(chance), chance.choice((0, 1, 5, 17, 32))
            model = PlainStore(first, tick=tick)
            changes = []
            for _ in range(chance.randrange(6)):
                lives, ticks = random_lives(chance), chance.choice((0, 0, 1, 2, 5, 9))
                model.change(lives)
                model.advance(ticks)
                changes.append((Rule(*lives), ticks))
                rule = after_changes(Rule(*first), *changes)
                self.assertEqual(list(kept(rule, model.tick)), sorted(model.points), (first, tick, changes))

    def test_no_change(self):
        self.assertEqual(after_changes(Rule(0, 2, 8)).lives, (0, 2, 8))

    def test_one_change_is_changed(self):
        for old in SMALL[::3]:
            for new in SMALL[::2]:
                for ticks in (0, 1, 4):
                    self.assertEqual(after_changes(Rule(*old), (Rule(*new), ticks)),
                                     changed(Rule(*old), Rule(*new), ticks))

    def test_two_changes_at_one_tick(self):
        self.assertEqual(after_changes(Rule(9), (Rule(2), 0), (Rule(6), 0)).lives, (2,))
        self.assertEqual(after_changes(Rule(9), (Rule(2), 0), (Rule(6), 3)).lives, (5,))

    def test_a_change_back(self):
        # What was deleted does not come back; only what is younger than the change lives on.
        self.assertEqual(after_changes(Rule(0, 8), (Rule(0, 2), 0), (Rule(0, 8), 0)).lives, (0, 2))
        self.assertEqual(after_changes(Rule(0, 8), (Rule(0, 2), 3), (Rule(0, 8), 4)).lives, (0, 6))
        self.assertEqual(after_changes(Rule(0, 8), (Rule(0, 2), 3), (Rule(0, 8), 6)).lives, (0, 8))
        self.assertEqual(after_changes(Rule(None), (Rule(1), 5), (Rule(None), 5)).lives, (6,))

    def test_a_list_of_changes_is_not_modified(self):
        changes = [(Rule(2), 3), (Rule(6), 1)]
        self.assertEqual(after_changes(Rule(8), *changes).lives, (3,))
        self.assertEqual([(rule.lives, ticks) for rule, ticks in changes], [((2,), 3), ((6,), 1)])

    def test_great_numbers(self):
        chance = random.Random(103)
        for _ in range(60):
            first, tick = great_rule(chance), 10 ** 18 - chance.randrange(10 ** chance.randrange(1, 19))
            model = GreatStore(first.lives, tick)
            changes = []
            for _ in range(7):
                rule, ticks = great_rule(chance), chance.choice((0, MOST, chance.randrange(10 ** 9)))
                changes.append((rule + MOST if chance.random() < 0.2 else rule, ticks))
                model.change(changes[-1][0].lives)
                model.advance(ticks)
                found = after_changes(first, *changes)
                self.assertEqual(kept_count(found, model.tick), model.standing())
                for _ in range(20):
                    point = model.tick - chance.randrange(10 ** chance.randrange(1, 19))
                    if point >= 0:
                        self.assertIs((point, model.tick) in found, model.has(point))


class Settled(unittest.TestCase):
    def test_by_trying(self):
        for old in SMALL:
            for new in SMALL:
                self.assertEqual(settled(Rule(*old), Rule(*new)), least_settled(old, new), (old, new))

    def test_equal_rules(self):
        for lives in SMALL + [(MOST,), (0,) * 60 + (None,)]:
            self.assertEqual(settled(Rule(*lives), Rule(*lives)), 0)

    def test_shorter_lives(self):
        self.assertEqual(settled(Rule(8), Rule(0, 2, 8)), 0)
        self.assertEqual(settled(Rule(None), Rule(MOST)), 0)
        self.assertEqual(settled(Rule(None), Rule(0, None)), 0)

    def test_never(self):
        self.assertIsNone(settled(Rule(MOST), Rule(None)))
        self.assertIsNone(settled(Rule(0, 2, 8), Rule(0, None)))
        self.assertIsNone(settled(Rule(0, None), Rule(None)))
        self.assertIsNone(settled(Rule(5), Rule(9, None)))

    def test_the_ranks_beyond_the_shorter_lives(self):
        self.assertEqual(settled(Rule(5), Rule(5, 5, 5, 12)), 7)
        self.assertEqual(settled(Rule(0, 0, 0, 12), Rule(12)), 12)

    def test_great_numbers(self):
        self.assertEqual(settled(Rule(0), Rule(MOST) + MOST), 2 * MOST)
        self.assertEqual(settled(Rule(0, 1) + MOST, Rule(1, MOST) + MOST + MOST), 2 * MOST - 1)
        chance = random.Random(104)
        many = 0
        for _ in range(200):
            old, new = great_rule(chance), great_rule(chance) + chance.choice((0, 0, MOST))
            found = settled(old, new)
            if found is None:
                self.assertTrue(any([new[at] is None and old[at] is not None for at in range(62)]))
                continue
            many += 1
            self.assertEqual(changed(old, new, found), new)
            self.assertEqual(changed(old, new, found + 1), new)
            if found > 0:
                self.assertNotEqual(changed(old, new, found - 1), new)
        self.assertGreater(many, 50)


if __name__ == '__main__':
    unittest.main()
