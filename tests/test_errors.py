"""errors.py: KeepError and the errors directly under it."""

import copy
import unittest

from rulerkeep import errors
from rulerkeep.errors import KeepError
from tests.plain import NOT_NATURAL

NAMES = (
    'BadLives', 'BadRank', 'BadTicks', 'BadAge', 'NotKept', 'OtherTick', 'TooMany', 'TooWide', 'BadText', 'BadLine',
)
VALUES = (0, 7, 10 ** 18, 10 ** 19, 10 ** 6000) + NOT_NATURAL


class Errors(unittest.TestCase):
    def test_keep_error_is_a_value_error(self):
        self.assertEqual(KeepError.__bases__, (ValueError,))

    def test_each_error_stands_directly_under_keep_error(self):
        for name in NAMES:
            with self.subTest(name):
                self.assertEqual(getattr(errors, name).__bases__, (KeepError,))

    def test_the_errors_are_different_classes(self):
        self.assertEqual(len({getattr(errors, name) for name in NAMES}), len(NAMES))

    def test_the_value_is_kept_by_position_and_by_name(self):
        for name in NAMES:
            for value in VALUES:
                with self.subTest(name):
                    error = getattr(errors, name)
                    before = copy.deepcopy(value)
                    self.assertIs(error(value).value, value)
                    self.assertIs(error(value=value).value, value)
                    self.assertEqual(value, before)

    def test_a_message_can_be_asked_for_whatever_the_value(self):
        for name in NAMES:
            for value in VALUES:
                with self.subTest(name):
                    self.assertIsInstance(str(getattr(errors, name)(value)), str)

    def test_each_error_is_raised_and_caught_as_keep_error(self):
        for name in NAMES:
            with self.subTest(name):
                with self.assertRaises(KeepError) as caught:
                    raise getattr(errors, name)([1])
                self.assertEqual(caught.exception.value, [1])

    def test_one_argument_is_asked_for(self):
        for name in NAMES:
            with self.subTest(name):
                self.assertRaises(TypeError, getattr(errors, name))
                self.assertRaises(TypeError, getattr(errors, name), 1, 2)


if __name__ == '__main__':
    unittest.main()
