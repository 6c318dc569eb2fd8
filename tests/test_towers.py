"""Towers for powers of 5 and 7 ([84])."""

import random
import unittest
from math import gcd

from etasure.errors import BadPrime, BadRow, BadStep
from etasure.products import product_row
from etasure.quotients import row_of
from etasure.series import series_times
from etasure.towers import tower, tower_content, tower_step
from tests.helpers import NO_NUMBERS, Case

CHANCE = random.Random(84)
H = {5: {1: -6, 5: 6}, 7: {1: -4, 7: 4}}
LAST = {5: 4, 7: 3}
PARTITIONS = product_row([1] * 3000, 3000)
NO_PRIMES = NO_NUMBERS + [0, 1, 2, 3, 4, 6, 11, 13, -5, 10 ** 40]
NO_TOWER_ROWS = [None, True, 1, "12", b"12", [], (), [True], [1, False], [1.0], (None,), [[1]], {0: 1}, range(3),
                 [0] * 41, (1,) * 41]


def times(one, other):
    """The product of two series, as long as the shorter one."""
    return series_times(one, other, min(len(one), len(other)))


def series_of(prime, row, size):
    """The first coefficients of the sum of xi * h ** i."""
    h = [0] + row_of(H[prime], size - 2)
    total = [0] * size
    for x in reversed(row):
        total[0] += x
        total = times(h, total)
    return total


def step_of(prime, k, row, size):
    """What the step makes of a series, as a series, by its sentence."""
    series = series_of(prime, row, prime * size)
    if k % 2 == 0:
        start = (prime * prime - 1) // 24
        series = times(series, [0] * start + row_of({1: -1, prime * prime: 1}, prime * size - start - 1))
    return series[::prime]


class TestTowers(Case):

    def test_facts(self):
        self.assertEqual(self.tell(tower, 5, 1), [5])
        self.assertEqual(self.tell(tower, 7, 1), [7, 49])
        # Ramanujan's for 25: 63 * 5 ** 2, 52 * 5 ** 5, 63 * 5 ** 7, 6 * 5 ** 10, 5 ** 12.
        self.assertEqual(self.tell(tower, 5, 2), [63 * 5 ** 2, 52 * 5 ** 5, 63 * 5 ** 7, 6 * 5 ** 10, 5 ** 12])
        for prime, last in LAST.items():
            for k in range(1, last + 1):
                told = self.tell(tower, prime, k)
                self.assertNotEqual(told[-1], 0)
                content = self.tell(tower_content, prime, k)
                self.assertEqual(content, gcd(*told))
                self.assertEqual(content % (5 ** k if prime == 5 else 7 ** (k // 2 + 1)), 0)

    def test_numbers_of_partitions(self):
        for prime, last in ((5, 3), (7, 2)):
            for k in range(1, last + 1):
                power = prime ** k
                first = next(e for e in range(1, power + 1) if 24 * e % power == 1)
                numbers = PARTITIONS[first::power]
                self.assertGreaterEqual(len(numbers), 20)
                factor = row_of({prime if k % 2 else 1: 1}, len(numbers) - 1)
                self.assertEqual(series_of(prime, tower(prime, k), len(numbers) + 1), [0] + times(numbers, factor))
                self.assertEqual(gcd(*numbers) % tower_content(prime, k), 0)

    def test_from_one_to_the_next(self):
        for prime, last in LAST.items():
            for k in range(1, last):
                self.assertEqual(tower_step(prime, k, tower(prime, k)), tower(prime, k + 1))
        # Beyond the last tower the same steps go on, as far as rows of forty numbers go.
        self.assertEqual(tower_step(5, 3, tower(5, 3)), tower_step(5, 10 ** 40 + 1, tower(5, 3)))

    def test_steps_against_series(self):
        for prime in (5, 7):
            for row in ([1], [0] * 5 + [1], [0] * 6 + [1], [0] * 9 + [1], [-3, 0, 10 ** 30],
                        [CHANCE.randint(-9, 9) for _ in range(7)] + [1]):
                for k in (0, 1):
                    told = self.tell(tower_step, prime, k, row)
                    self.assertNotEqual(told[-1], 0)
                    self.assertLessEqual(len(told), prime * len(row) + (2 if k == 0 else 0))
                    size = max(40, len(told) + 12)
                    self.assertEqual(series_of(prime, told, size), step_of(prime, k, row, size))

    def test_sums_of_rows(self):
        for _ in range(8):
            prime, k = CHANCE.choice([5, 7]), CHANCE.choice([0, 1, 2, 7, 10 ** 40, 10 ** 40 + 1])
            one, other = ([CHANCE.randint(-(10 ** 20), 10 ** 20) for _ in range(20)] for _ in range(2))
            x, y = CHANCE.randint(-5, 5), CHANCE.randint(1, 5)
            first, second = tower_step(prime, k, one), tower_step(prime, k, other)
            both = self.tell(tower_step, prime, k, [x * a + y * b for a, b in zip(one, other)])
            self.assertEqual(both, [x * a + y * b for a, b in zip(first, second)])
            self.assertEqual(tower_step(prime, k % 2, one), first)

    def test_edges(self):
        for prime in (5, 7):
            for k in (0, 10 ** 40 + 1):
                for row in ([0], [0] * 40):
                    self.assertEqual(self.tell(tower_step, prime, k, row), [])
                self.assertEqual(tower_step(prime, k, [1, 0, 0]), tower_step(prime, k, [1]))
                told = self.tell(tower_step, prime, k, [0] * 39 + [1])
                self.assertEqual(len(told), 40 * prime + (0 if k % 2 else (prime * prime - 1) // 24))
                self.assertEqual(len(self.tell(tower_step, prime, k, [10 ** 50] * 40)), len(told))

    def test_wrong(self):
        for function in (tower, tower_content):
            self.fails_in_turn(function, [5, 1], [(BadPrime, NO_PRIMES), (BadStep, NO_NUMBERS + [0, -1, 5, 10 ** 40])])
            self.fails(BadStep, function, 7, 4)
        self.fails_in_turn(tower_step, [7, 1, [1]],
                           [(BadPrime, NO_PRIMES), (BadStep, NO_NUMBERS + [-1, -(10 ** 40)]), (BadRow, NO_TOWER_ROWS)])


if __name__ == "__main__":
    unittest.main()
