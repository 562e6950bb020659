"""ranks.py, point [4], held against going through all points one by one."""

import unittest

from rulerkeep.ranks import rank, ranked, youngest
from tests.plain import zeros

MOST = 10 ** 18


class Rank(unittest.TestCase):
    def test_zeros_of_many_points(self):
        self.assertEqual([rank(point) for point in range(3000)], [zeros(point) for point in range(3000)])

    def test_point_0_has_none(self):
        self.assertIsNone(rank(0))

    def test_great_points(self):
        self.assertEqual([rank(MOST), rank(MOST - 1), rank(MOST + 2), rank(2 ** 59)], [18, 0, 1, 59])

    def test_greater_results_passed_in_again(self):
        self.assertEqual([rank(2 ** 200), rank(3 * 2 ** 70), rank(10 ** 50 + 1)], [200, 70, 0])

    def test_argument_by_name(self):
        self.assertEqual(rank(point=12), 2)


class Youngest(unittest.TestCase):
    def test_all_short_ones(self):
        for tick in range(140):
            for wanted in range(10):
                points = [point for point in range(1, tick + 1) if zeros(point) == wanted]
                with self.subTest(tick=tick, rank=wanted):
                    self.assertEqual(youngest(tick, wanted), max(points, default=None))

    def test_the_point_0_is_never_it(self):
        self.assertEqual([youngest(0, wanted) for wanted in (0, 1, 60, MOST)], [None] * 4)

    def test_great_ticks(self):
        self.assertEqual(youngest(MOST, 18), MOST)
        self.assertEqual(youngest(MOST, 0), MOST - 1)
        self.assertEqual(youngest(MOST, 59), 2 ** 59)
        self.assertIsNone(youngest(MOST, 60))

    def test_great_ticks_at_each_rank(self):
        for wanted in range(60):
            for tick in (MOST, MOST - 1, MOST - 12345):
                found = youngest(tick, wanted)
                with self.subTest(tick=tick, rank=wanted):
                    self.assertEqual(zeros(found), wanted)
                    self.assertTrue(found <= tick < found + 2 ** (wanted + 1))

    def test_great_ranks(self):
        self.assertIsNone(youngest(MOST, MOST))
        self.assertIsNone(youngest(1, 10 ** 30))

    def test_greater_results_passed_in_again(self):
        self.assertEqual(youngest(10 ** 40, 0), 10 ** 40 - 1)
        self.assertEqual(youngest(2 ** 200 + 5, 200), 2 ** 200)

    def test_arguments_by_name(self):
        self.assertEqual(youngest(rank=1, tick=13), 10)


class Ranked(unittest.TestCase):
    def test_all_short_ones(self):
        for low in range(36):
            for high in range(36):
                for wanted in range(7):
                    many = len([point for point in range(low, high + 1) if zeros(point) == wanted])
                    with self.subTest(low=low, high=high, rank=wanted):
                        self.assertEqual(ranked(low, high, wanted), many)

    def test_low_above_high(self):
        self.assertEqual([ranked(2, 1, 0), ranked(9, 3, 0), ranked(MOST, 0, 0), ranked(1, 0, 0)], [0] * 4)

    def test_the_point_0_is_not_counted(self):
        self.assertEqual([ranked(0, 0, wanted) for wanted in (0, 1, 60, MOST)], [0] * 4)
        self.assertEqual(ranked(0, 1, 0), 1)

    def test_great_ticks(self):
        self.assertEqual(ranked(0, MOST, 0), MOST // 2)
        self.assertEqual(ranked(1, MOST, 17), MOST // 2 ** 18)
        self.assertEqual(ranked(MOST, MOST, 18), 1)
        self.assertEqual(ranked(1, MOST, 59), 1)
        self.assertEqual(ranked(1, MOST, 60), 0)

    def test_great_windows(self):
        low = MOST - 300
        for wanted in range(20):
            many = len([point for point in range(low, MOST + 1) if zeros(point) == wanted])
            self.assertEqual(ranked(low, MOST, wanted), many)

    def test_great_ranks(self):
        self.assertEqual([ranked(0, MOST, MOST), ranked(5, MOST, 10 ** 30)], [0, 0])

    def test_greater_results_passed_in_again(self):
        self.assertEqual(ranked(1, 2 ** 200, 3), 2 ** 196)

    def test_arguments_by_name(self):
        self.assertEqual(ranked(rank=1, high=16, low=1), 4)


if __name__ == '__main__':
    unittest.main()
