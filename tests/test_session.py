"""Sessions: point [13], and [3] (f)."""

import copy
import random
import unittest

from rulerkeep.averages import average
from rulerkeep.errors import BadAge, BadLine, BadText, KeepError, NotKept, TooMany
from rulerkeep.rules import Rule
from rulerkeep.session import Session
from rulerkeep.store import Store
from rulerkeep.texts import read_rule, read_wish, show_rule, show_wish
from rulerkeep.wishes import cheapest, first_broken, meets
from rulerkeep.worst import worst
from tests import plain
from tests.great import TWELVE, great_rule, great_wish
from tests.plain_store import PlainStore, random_lives
from tests.test_texts import NO_NUMBERS, NO_STRINGS

MOST = 10 ** 18
WITH_NUMBER = ('advance', 'lose', 'restore', 'distance', 'worst')
ALONE = ('points', 'count', 'tick', 'rule', 'average')


def some_session():
    session = Session('0 2 8')
    for line in ('advance 7', 'change 0 4 9', 'lose 4'):
        session.say(line)
    return session


def seen(session):
    """What a session tells of itself, without changing it."""
    return [session.say(line) for line in ALONE] + [session.say('restore ' + str(age)) for age in range(8)]


def seen_shortly(session):
    """The same where there are too many points to list."""
    return [session.say(line) for line in ALONE[1:]] + [session.say('restore 0')]


def or_none(number):
    return 'none' if number is None else str(number)


class Lines(unittest.TestCase):
    def setUp(self):
        self.session = Session('0 2 8')

    def check(self, *pairs):
        for line, answer in pairs:
            self.assertEqual(self.session.say(line), answer, line)

    def test_at_first(self):
        self.check(('tick', '0'), ('rule', '0 2 8'), ('points', '0'), ('count', '1'), ('restore 0', '0'))
        self.assertEqual([Session('0').say('points'), Session('0').say('count')], ['-', '0'])
        self.assertEqual(Session('0 2 2').say('rule'), '0 2')
        self.assertEqual(Session(text='0 -').say(line='rule'), '0 -')

    def test_advance(self):
        self.check(('advance 7', 'ok'), ('tick', '7'), ('points', '0 4 6'), ('advance 0', 'ok'), ('tick', '7'),
                   ('advance 1', 'ok'), ('tick', '8'), ('points', '4 8'))

    def test_lose(self):
        self.check(('advance 7', 'ok'), ('lose 4', 'ok'), ('points', '0 6'), ('count', '2'), ('lose 0', 'ok'),
                   ('lose 6', 'ok'), ('points', '-'), ('count', '0'), ('restore 0', 'none'), ('distance 0', 'none'))

    def test_change(self):
        self.check(('advance 7', 'ok'), ('change 4', 'ok'), ('rule', '4'), ('points', '4 6'), ('advance 1', 'ok'),
                   ('points', '6 8'), ('change 0 2 2', 'ok'), ('rule', '0 2'), ('points', '8'), ('change -', 'ok'),
                   ('rule', '-'), ('change 0 5 -', 'ok'), ('rule', '0 5 -'), ('change 0', 'ok'), ('points', '-'))

    def test_restore_and_distance(self):
        self.check(('advance 7', 'ok'), ('restore 0', '6'), ('restore 2', '4'), ('restore 4', '0'), ('restore 7', '0'),
                   ('distance 0', '1'), ('distance 2', '1'), ('distance 1', '0'), ('distance 4', '3'),
                   ('distance 7', '0'), ('advance 1', 'ok'), ('restore 5', 'none'), ('distance 5', 'none'))

    def test_worst(self):
        self.check(('worst 0', '1'), ('worst 1', '3'), ('worst 4', '3'), ('worst 5', 'none'),
                   ('worst 1000000000000000000', 'none'), ('change 0 -', 'ok'), ('worst 1000000000000000000', '1'),
                   ('change 0', 'ok'), ('worst 0', 'none'))

    def test_average(self):
        self.check(('average', '5/2'), ('change 0 4', 'ok'), ('average', '2/1'), ('change 0', 'ok'), ('average', '0/1'),
                   ('change 7', 'ok'), ('average', '7/1'), ('change 0 -', 'ok'), ('average', 'none'))

    def test_wish(self):
        self.check(('wish 0:1 9:3', 'broken 5'), ('wish 0:1 4:3', 'met'), ('wish 0:0', 'broken 0'),
                   ('wish 0:1', 'met'), ('wish 4:3', 'met'), ('wish 1:2 5:3', 'broken 1'), ('rule', '0 2 8'))

    def test_cheapest(self):
        self.check(('advance 7', 'ok'), ('cheapest 0:1 9:3', '0 2 13'), ('rule', '0 2 13'), ('points', '0 4 6'),
                   ('wish 0:1 9:3', 'met'), ('cheapest 0:0', '1'), ('points', '-'), ('advance 1', 'ok'),
                   ('points', '8'))

    def test_the_rule_in_force_is_asked(self):
        # Not the rule that still shows in the points.
        self.check(('advance 7', 'ok'), ('change 4', 'ok'), ('change 0 -', 'ok'), ('rule', '0 -'), ('worst 50', '1'),
                   ('wish 99:1', 'met'), ('average', 'none'), ('points', '4 6'))

    def test_great_numbers(self):
        most = str(MOST)
        self.check(('change 0 ' + most, 'ok'), ('advance ' + most, 'ok'), ('advance ' + most, 'ok'),
                   ('tick', '2' + '0' * 18), ('count', '5' + '0' * 17), ('restore ' + most, 'none'),
                   ('restore ' + str(MOST - 1), 'none'), ('restore ' + str(MOST - 2), str(MOST + 2)),
                   ('distance ' + str(MOST - 3), '1'), ('worst ' + most, 'none'), ('worst ' + str(MOST - 2), '1'))

    def test_a_rule_with_lives_above_the_limit(self):
        wish = f'{MOST - 1}:{MOST - 1} {MOST}:{MOST}'
        rule = cheapest(read_wish(wish))
        self.check(('cheapest ' + wish, show_rule(rule)), ('rule', ' '.join([str(life) for life in rule.lives])),
                   ('wish ' + wish, 'met'), ('average', '/'.join([str(part) for part in average(rule)])))
        self.check(('advance ' + str(MOST), 'ok'), ('tick', str(MOST)), ('worst ' + str(MOST), str(worst(rule, MOST))))
        with self.assertRaises(BadLine):
            self.session.say('change ' + show_rule(rule))
        self.assertEqual(self.session.say('rule'), show_rule(rule))


class AsTheMethods(unittest.TestCase):
    def test_a_plain_store(self):
        for seed in range(80):
            chance = random.Random(seed)
            lives = random_lives(chance)
            session, model = Session(show_rule(Rule(*lives))), PlainStore(lives)
            for _ in range(15):
                points = sorted(model.points)
                kind = chance.choice(('advance', 'advance', 'change', 'lose'))
                if kind == 'change':
                    lives = random_lives(chance)
                    self.assertEqual(session.say('change ' + show_rule(Rule(*lives))), 'ok')
                    model.change(lives)
                elif kind == 'advance' or not points:
                    ticks = chance.randrange(7)
                    self.assertEqual(session.say(f'advance {ticks}'), 'ok')
                    model.advance(ticks)
                else:
                    point = chance.choice(points)
                    self.assertEqual(session.say(f'lose {point}'), 'ok')
                    model.lose(point)
                self.check_model(session, model)

    def check_model(self, session, model):
        points = sorted(model.points)
        self.assertEqual(session.say('points'), ' '.join([str(point) for point in points]) or '-')
        self.assertEqual([session.say('count'), session.say('tick')], [str(len(points)), str(model.tick)])
        self.assertEqual(session.say('rule'), show_rule(Rule(*model.lives)))
        for age in range(model.tick + 1):
            self.assertEqual(session.say(f'restore {age}'), or_none(model.restore(age)))
            self.assertEqual(session.say(f'distance {age}'), or_none(model.distance(age)))

    def test_a_great_store(self):
        for seed in range(25):
            chance = random.Random(seed)
            rule = great_rule(chance)
            session, store = Session(show_rule(rule)), Store(rule)
            for _ in range(12):
                self.lead(chance, session, store)
                self.check_store(chance, session, store)

    def lead(self, chance, session, store):
        kind = chance.choice(('advance', 'change', 'cheapest', 'lose'))
        if kind == 'advance':
            ticks = chance.choice((0, MOST, chance.randrange(MOST)))
            self.assertEqual(session.say(f'advance {ticks}'), 'ok')
            store.advance(ticks)
        elif kind == 'change':
            rule = great_rule(chance)
            self.assertEqual(session.say('change ' + show_rule(rule)), 'ok')
            store.change(rule)
        elif kind == 'cheapest':
            wish = great_wish(chance, chance.randrange(1, 13))
            self.assertEqual(session.say('cheapest ' + show_wish(wish)), show_rule(cheapest(wish)))
            store.change(cheapest(wish))
        else:
            point = store.restore(chance.randrange(store.tick + 1))
            if point is not None and point <= MOST:
                self.assertEqual(session.say(f'lose {point}'), 'ok')
                store.lose(point)

    def check_store(self, chance, session, store):
        self.assertEqual([session.say('count'), session.say('tick')], [str(store.size()), str(store.tick)])
        self.assertEqual(session.say('rule'), show_rule(store.rule))
        found = average(store.rule)
        self.assertEqual(session.say('average'), 'none' if found is None else f'{found[0]}/{found[1]}')
        for _ in range(5):
            age = chance.randrange(min(store.tick, MOST) + 1)
            self.assertEqual(session.say(f'restore {age}'), or_none(store.restore(age)))
            self.assertEqual(session.say(f'distance {age}'), or_none(store.distance(age)))
            age = chance.randrange(MOST + 1)
            self.assertEqual(session.say(f'worst {age}'), or_none(worst(store.rule, age)))
            wish = great_wish(chance, chance.randrange(1, 6))
            met = 'met' if meets(store.rule, wish) else f'broken {first_broken(store.rule, wish)[0]}'
            self.assertEqual(session.say('wish ' + show_wish(wish)), met)

    def test_sessions_are_independent(self):
        one, other = Session('0 2 8'), Session('0 2 8')
        one.say('advance 7')
        self.assertEqual([one.say('tick'), other.say('tick')], ['7', '0'])


class NoSessions(unittest.TestCase):
    def test_no_rule(self):
        for value in NO_STRINGS + ('', ' ', '0  2', '2 1', '- 0', '01', '0 2 ', str(MOST + 1), 'rule', '0:1'):
            with self.assertRaises(BadText) as caught:
                Session(value)
            self.assertIs(caught.exception.value, value)


class NoLines(unittest.TestCase):
    def check(self, lines):
        session = some_session()
        before = seen(session)
        for line in lines:
            held = copy.deepcopy(line)
            with self.assertRaises(BadLine, msg=str(line)[:60]) as caught:
                session.say(line)
            self.assertIs(type(caught.exception), BadLine)
            self.assertIs(caught.exception.value, line)
            self.assertEqual(repr(line), repr(held))
            self.assertEqual(seen(session), before)

    def test_any_value(self):
        self.check(NO_STRINGS + (('advance', 5), ['tick'], ('tick',), {'tick': 0}, {'advance': 5}))

    def test_other_words(self):
        self.check(('', ' ', 'x', 'Tick', 'TICK', 'ticks', 'tic', 'point', 'size', 'help', 'clone', 'joined',
                    'promised', 'most', 'settled', '7', '0 2 8', '-', 'ok', 'none', 'Advance 5', 'advanced 5',
                    'advance5',
                    'met', 'broken 5', 'tick;', 'rule tick', 'lives', 'cheap 0:1'))

    def test_lines_that_want_no_more(self):
        for word in ALONE:
            self.check((word + ' ', ' ' + word, word + ' 5', word + ' ' + word, word + '\n', word + '\t'))
            self.check((word + ' 0 2 8', word + ' 0:1', word + '  ', ' ' + word + ' '))

    def test_lines_that_want_more(self):
        for word in WITH_NUMBER + ('change', 'wish', 'cheapest'):
            self.check((word, word + ' ', ' ' + word, word + '  ', word + ' x'))

    def test_no_numbers(self):
        for word in WITH_NUMBER:
            self.check([word + ' ' + number for number in NO_NUMBERS])
            self.check([word + ' ' + number for number in ('1 2', '1 ', ' 1', '- ', '-', '0:1', '5 6', '5 x')])
            self.check((' ' + word + ' 1', word + '\t1', word + ' 1\n', '1 ' + word))

    def test_no_rules(self):
        self.check(['change ' + text for text in ('2 1', '- 0', '0  2', ' 0', '0 ', '01', '0:1', str(MOST + 1), '0 +2',
                                                  '0 - -', '-1', ' '.join(['5'] * 62), '0 2 x')])

    def test_no_wishes(self):
        for word in ('wish', 'cheapest'):
            self.check([word + ' ' + text for text in (
                '5', '0 2 8', '-', '0:1  9:3', ' 0:1', '0:1 ', '9:1 0:3', '0:1 9:1', '0:01', '0:-1', f'0:{MOST + 1}',
                f'{MOST + 1}:5', ':', '0:1:2', '0:1,9:3', show_wish(TWELVE) + ' 5:5',
                ' '.join([f'{at}:{at}' for at in range(13)]),
            )])


class ErrorsOfTheMethods(unittest.TestCase):
    def check(self, session, line, error, value, ask=seen):
        """Whether a line raises an error that holds the value, behind which the session answers as before."""
        before = ask(session)
        with self.assertRaises(KeepError) as caught:
            session.say(line)
        self.assertIs(type(caught.exception), error)
        self.assertEqual(caught.exception.value, value)
        self.assertEqual(ask(session), before)

    def test_points_that_are_not_kept(self):
        session = some_session()
        for point in (1, 3, 4, 7, 8, MOST):
            self.check(session, f'lose {point}', NotKept, point)
        session.say('lose 6')
        self.check(session, 'lose 6', NotKept, 6)

    def test_ages_above_the_tick(self):
        session = some_session()
        for age in (8, 9, MOST):
            self.check(session, f'restore {age}', BadAge, age)
            self.check(session, f'distance {age}', BadAge, age)
        self.assertEqual(session.say('worst 8'), 'none')

    def test_numbers_that_are_none_come_first(self):
        self.check(some_session(), f'restore {MOST + 1}', BadLine, f'restore {MOST + 1}')
        self.check(some_session(), f'lose {MOST + 1}', BadLine, f'lose {MOST + 1}')
        self.check(some_session(), f'advance {MOST + 1}', BadLine, f'advance {MOST + 1}')
        self.assertEqual(some_session().say(f'advance {MOST}'), 'ok')

    def test_too_many_points(self):
        session = Session('-')
        session.say('advance 1999')
        self.assertEqual(session.say('points'), ' '.join([str(point) for point in range(2000)]))
        session.say('advance 1')
        self.check(session, 'points', TooMany, 2001, seen_shortly)
        session.say('lose 1000')
        self.assertEqual(len(session.say('points').split(' ')), 2000)
        session.say(f'advance {MOST}')
        self.check(session, 'points', TooMany, MOST + 2000, seen_shortly)

    def test_a_session_goes_on_behind_errors(self):
        session = some_session()
        for line in ('lose 5', 'restore 99', 'x', 'advance', 'change 2 1', 'wish 0', 5):
            self.assertRaises(KeepError, session.say, line)
        self.assertEqual([session.say('advance 1'), session.say('tick'), session.say('points')], ['ok', '8', '0 6 8'])


class Readings(unittest.TestCase):
    def test_what_a_session_writes_is_read_back(self):
        session = some_session()
        self.assertEqual(read_rule(session.say('rule')), Rule(0, 4, 9))
        self.assertEqual(session.say('change ' + session.say('rule')), 'ok')
        self.assertEqual(session.say('rule'), '0 4 9')
        for lives in plain.all_lives(3, 3):
            self.assertEqual(session.say('change ' + show_rule(Rule(*lives))), 'ok')
            self.assertEqual(read_rule(session.say('rule')), Rule(*lives))


if __name__ == '__main__':
    unittest.main()
