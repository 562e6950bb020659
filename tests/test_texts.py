"""Rules and wishes as texts: point [12], and [3] (f)."""

import copy
import random
import unittest

from rulerkeep.changes import changed
from rulerkeep.errors import BadText
from rulerkeep.rules import Rule
from rulerkeep.texts import read_rule, read_wish, show_rule, show_wish
from rulerkeep.wishes import cheapest, is_wish
from tests import plain
from tests.great import TWELVE, great_rule, great_wish

MOST = 10 ** 18

# Words that write no integer from 0 to 10 ** 18.
NO_NUMBERS = (
    '', '00', '01', '007', '00' + str(MOST), '+1', '-1', '-0', '+0', '--', '1-', '1.0', '1e3', '1_0', '0x1', 'a',
    'None', 'none', 'True', '1,', ',', '(1,)', '*', '\t', '1\n', '\n1', '1\t', '\x00', str(MOST + 1), str(10 ** 19),
    '9' * 19, '1' * 5000, '0' * 20, '0' * 5000, '\u0663', '\xb2',
)
NO_STRINGS = tuple([value for value in plain.NOT_NATURAL if not isinstance(value, str)]) + (
    0, 5, MOST, 10 ** 19, ('0 2',), ['0 2'], ['0', '2'], ('0', '2'), {'0': '2'}, ((0, 1),), ('0:1',), ['0:1'],
    [['0:1']],
)


class Texts(unittest.TestCase):
    def check_bad(self, read, value):
        before = copy.deepcopy(value)
        with self.assertRaises(BadText, msg=str(value)[:60]) as caught:
            read(value)
        self.assertIs(type(caught.exception), BadText)
        self.assertIs(caught.exception.value, value)
        self.assertEqual(repr(value), repr(before))


class Rules(Texts):
    def test_shown(self):
        for rule, text in (
            (Rule(0), '0'), (Rule(None), '-'), (Rule(0, None), '0 -'), (Rule(0, 2, 8), '0 2 8'), (Rule(2, 2), '2'),
            (Rule(10, 100), '10 100'), (Rule(MOST), '1000000000000000000'), (Rule(0, 0, None), '0 0 -'),
            (Rule(*[7] * 60, 10 ** 17), ' '.join(['7'] * 60) + ' 1' + '0' * 17),
        ):
            self.assertEqual(show_rule(rule), text)
            self.assertEqual(read_rule(text), rule)
            self.assertEqual((show_rule(rule=rule), read_rule(text=text)), (text, rule))

    def test_what_is_written_is_read_back(self):
        for lives in plain.all_lives(4, 4):
            rule = Rule(*lives)
            self.assertEqual(show_rule(rule), ' '.join(['-' if own is None else str(own) for own in rule.lives]))
            self.assertEqual(read_rule(show_rule(rule)), rule)
        chance = random.Random(121)
        for _ in range(300):
            rule = great_rule(chance)
            self.assertEqual(read_rule(show_rule(rule)), rule)

    def test_equal_lives_at_the_end(self):
        self.assertEqual(read_rule('2 2').lives, (2,))
        self.assertEqual(read_rule('0 2 2 2').lives, (0, 2))
        self.assertEqual(read_rule('0 0').lives, (0,))
        self.assertEqual(read_rule('0 0 -').lives, (0, 0, None))
        self.assertEqual(read_rule(' '.join(['5'] * 61)).lives, (5,))
        self.check_bad(read_rule, ' '.join(['5'] * 62))
        self.check_bad(read_rule, '0 - -')

    def test_a_blank_too_many(self):
        for text in ('', ' ', '  ', ' 0', '0 ', '0  2', ' 0 2', '0 2 ', '0 2  8', '- ', ' -', '0  -', '0\t2', '0\n2'):
            self.check_bad(read_rule, text)

    def test_no_numbers(self):
        for word in NO_NUMBERS:
            for text in (word, '0 ' + word, word + ' 5', '0 ' + word + ' 9', '0 ' + word + ' -'):
                self.check_bad(read_rule, text)

    def test_a_dash_that_is_not_at_the_end(self):
        for text in ('- 0', '- -', '0 - 5', '- 0 -', '-5', '5-', '0 2-', '0 -2'):
            self.check_bad(read_rule, text)

    def test_lives_that_are_none(self):
        for text in ('2 1', '0 5 4', '9 8 -', '1 0', str(MOST) + ' 0'):
            self.check_bad(read_rule, text)

    def test_many_lives(self):
        self.assertEqual(read_rule(' '.join(map(str, range(61)))).lives, tuple(range(61)))
        self.assertEqual(read_rule(' '.join(map(str, range(60))) + ' -').lives, tuple(range(60)) + (None,))
        self.check_bad(read_rule, ' '.join(map(str, range(62))))
        self.check_bad(read_rule, ' '.join(map(str, range(61))) + ' -')

    def test_the_greatest_life(self):
        self.assertEqual(read_rule('0 ' + str(MOST)).lives, (0, MOST))
        self.check_bad(read_rule, '0 ' + str(MOST + 1))

    def test_any_value(self):
        for value in NO_STRINGS + ('0:1', 'rule', 'x y', '0 2 8 x', 'Rule(0)'):
            self.check_bad(read_rule, value)

    def test_lives_above_the_limit_are_written_with_all_figures(self):
        self.assertEqual(show_rule(Rule(0, MOST) + MOST), '1000000000000000000 2000000000000000000')
        self.assertEqual(show_rule(Rule(7, None) + MOST), '1000000000000000007 -')
        self.assertEqual(show_rule(Rule(1) + 10 ** 36), '1' + '0' * 35 + '1')
        self.assertEqual(show_rule(Rule(0) + (10 ** 36 + 10 ** 18)), '1' + '0' * 17 + '1' + '0' * 18)
        self.assertEqual(show_rule(changed(Rule(0), Rule(None), 123456789 * 10 ** 30)), '123456789' + '0' * 30)
        for wish in (((MOST, MOST),), TWELVE):
            rule = cheapest(wish)
            self.assertEqual(show_rule(rule), ' '.join([str(life) for life in rule.lives]))
            self.check_bad(read_rule, show_rule(rule))
        chance = random.Random(122)
        for _ in range(300):
            more = chance.randrange(10 ** chance.randrange(1, 90))
            rule = great_rule(chance) + more
            words = ['-' if own is None else str(own) for own in rule.lives]
            self.assertEqual(show_rule(rule), ' '.join(words))

    def test_more_figures_than_python_writes_at_once(self):
        rule = Rule(1)
        for _ in range(20000):
            rule = rule + rule[0]
        text = show_rule(rule)
        self.assertEqual((len(text), text[0].isdigit()), (6021, True))
        self.assertEqual(text, figures(2 ** 20000))
        self.check_bad(read_rule, text)


class Wishes(Texts):
    def test_shown(self):
        for wish, text in (
            (((0, 0),), '0:0'), (((0, 1), (9, 3)), '0:1 9:3'), (((5, 0),), '5:0'), (((10, 100),), '10:100'),
            (((MOST, MOST),), str(MOST) + ':' + str(MOST)),
            (tuple([(at, 2 * at) for at in range(12)]), ' '.join([f'{at}:{2 * at}' for at in range(12)])),
        ):
            self.assertEqual(show_wish(wish), text)
            self.assertEqual(read_wish(text), wish)
            self.assertEqual((show_wish(wish=wish), read_wish(text=text)), (text, wish))

    def test_what_is_written_is_read_back(self):
        chance = random.Random(123)
        for many in range(1, 13):
            for _ in range(30):
                wish = great_wish(chance, many)
                self.assertEqual(read_wish(show_wish(wish)), wish)
        self.assertEqual(read_wish(show_wish(TWELVE)), TWELVE)

    def test_a_wish_is_read_as_tuples(self):
        wish = read_wish('0:1 9:3')
        self.assertTrue(is_wish(wish))
        self.assertEqual(repr(wish), '((0, 1), (9, 3))')

    def test_a_blank_too_many(self):
        for text in ('', ' ', ' 0:1', '0:1 ', '0:1  9:3', '0: 1', '0 :1', '0:1\t9:3', '0:1\n', '0:1\n9:3'):
            self.check_bad(read_wish, text)

    def test_no_numbers(self):
        for word in NO_NUMBERS + ('-',):
            for text in (word, word + ':5', '5:' + word, '0:1 ' + word + ':5', '0:1 5:' + word, word + ':' + word):
                self.check_bad(read_wish, text)

    def test_no_steps(self):
        for text in ('5', '5:', ':5', ':', '::', '0:1:2', '0::1', '0:1:', ':0:1', '0:1 5', '0:1,9:3', '0-1', '0 1'):
            self.check_bad(read_wish, text)

    def test_no_ascending_steps(self):
        for text in ('0:1 0:3', '0:1 9:1', '9:1 0:3', '0:3 9:1', '0:1 0:1', '0:0 1:1 1:2'):
            self.check_bad(read_wish, text)

    def test_thirteen_steps(self):
        self.assertEqual(len(read_wish(' '.join([f'{at}:{at}' for at in range(12)]))), 12)
        self.check_bad(read_wish, ' '.join([f'{at}:{at}' for at in range(13)]))

    def test_the_greatest_numbers(self):
        self.assertEqual(read_wish(f'{MOST}:{MOST}'), ((MOST, MOST),))
        for text in (f'{MOST + 1}:{MOST}', f'{MOST}:{MOST + 1}', f'0:0 {MOST + 1}:5', f'0:0 5:{MOST + 1}'):
            self.check_bad(read_wish, text)

    def test_any_value(self):
        for value in NO_STRINGS + ('0', '0 2 8', '-', 'wish', '(0, 1)', '((0, 1),)'):
            self.check_bad(read_wish, value)


def figures(number):
    """The decimal figures of a number, in pieces that Python writes."""
    if number < 10 ** 4000:
        return str(number)
    high, low = divmod(number, 10 ** 4000)
    return figures(high) + str(low).zfill(4000)


if __name__ == '__main__':
    unittest.main()
