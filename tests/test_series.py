"""Quick products of rows, and powers of Euler's row: what modules share beside the interface ([32], [51], [60])."""

import random
import unittest

from etasure.quotients import row_of
from etasure.series import eta_power_series, series_spread, series_times

CHANCE = random.Random(32)


def slow_times(one, other, size):
    told = [0] * size
    for i, x in enumerate(one):
        for k, y in enumerate(other):
            if i + k < size:
                told[i + k] += x * y
    return told


class TestSeries(unittest.TestCase):

    def test_greatest_numbers(self):
        for bits in (1, 2, 3, 4, 5, 64, 201):
            for size in (1, 2, 3, 7, 8, 9, 31, 32, 33):
                for one in (1, -1):
                    for other in (1, -1):
                        rows = [one * (2 ** bits - 1)] * size, [other * 2 ** (bits - 1)] * size
                        self.assertEqual(series_times(*rows, size), slow_times(*rows, size))
                        rows = [one * (2 ** bits - 1)] * size, [other * (2 ** bits - 1)] * size
                        self.assertEqual(series_times(*rows, size), slow_times(*rows, size))

    def test_of_many(self):
        for _ in range(200):
            reach = 10 ** CHANCE.randint(0, 40)
            one = [CHANCE.choice([0, CHANCE.randint(-reach, reach)]) for _ in range(CHANCE.randint(1, 30))]
            other = [CHANCE.choice([0, CHANCE.randint(-9, 9)]) for _ in range(CHANCE.randint(1, 30))]
            size = CHANCE.randint(1, 40)
            self.assertEqual(series_times(one, other, size), slow_times(one, other, size))
        self.assertEqual(series_times([0, 0], [0], 3), [0, 0, 0])

    def test_spread(self):
        self.assertEqual(series_spread([1, 2, 3], 2, 5), [1, 0, 2, 0, 3])
        self.assertEqual(series_spread([1, 2, 3], 2, 4), [1, 0, 2, 0])
        self.assertEqual(series_spread([1, 2, 3], 1, 2), [1, 2])
        self.assertEqual(series_spread([1], 7, 3), [1, 0, 0])

    def test_powers(self):
        for r in (-99, -3, -1, 1, 2, 3, 24, 99):
            for size in (1, 2, 3, 6, 40):
                self.assertEqual(eta_power_series(r, size), slow_power(r, size))

    def test_few_and_many_factors_agree(self):
        for _ in range(60):
            one = {CHANCE.randint(1, 12): CHANCE.choice([-9, -2, -1, 1, 5]) for _ in range(2)}
            beside = {13: 2, 14: -1, 15: 3}
            row = series_times(row_of(one, 50), row_of(beside, 50), 51)
            self.assertEqual(row_of({**one, **beside}, 50), row)


def slow_power(r, size):
    """By multiplying and dividing by each (1 - q ** n)."""
    row = [1] + [0] * (size - 1)
    for n in range(1, size):
        for _ in range(abs(r)):
            places = range(size - 1, n - 1, -1) if r > 0 else range(n, size)
            for place in places:
                row[place] += -row[place - n] if r > 0 else row[place - n]
    return row


if __name__ == "__main__":
    unittest.main()
