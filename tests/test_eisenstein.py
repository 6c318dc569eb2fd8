"""Sums of powers of divisors, and Eisenstein's series ([50])."""

import random
import unittest

from etasure.eisenstein import divisor_sum, eisenstein_row
from etasure.errors import BadMost, BadNumber, BadWeight
from etasure.quotients import row_of
from etasure.rows import row_times
from tests.helpers import NO_MOSTS, NO_NUMBERS, Case, divisors

CHANCE = random.Random(50)
FACTORS = {2: -24, 4: 240, 6: -504}


class TestDivisorSum(Case):

    def test_by_hand(self):
        self.assertEqual(self.tell(divisor_sum, 1, 0), 1)
        self.assertEqual(self.tell(divisor_sum, 1, 11), 1)
        self.assertEqual(self.tell(divisor_sum, 6, 0), 4)
        self.assertEqual(self.tell(divisor_sum, 6, 1), 12)
        self.assertEqual(self.tell(divisor_sum, 6, 2), 50)
        self.assertEqual(self.tell(divisor_sum, 2, 11), 2049)
        self.assertEqual(self.tell(divisor_sum, 16, 1), 31)
        self.assertEqual(self.tell(divisor_sum, 999999, 0), 64)
        self.assertEqual(self.tell(divisor_sum, 999983, 11), 1 + 999983 ** 11)
        self.assertEqual(self.tell(divisor_sum, 810000, 3), sum(d ** 3 for d in divisors(810000)))

    def test_of_many(self):
        for n in list(range(1, 200)) + [CHANCE.randint(1, 9999) for _ in range(60)]:
            for k in (0, 1, CHANCE.randint(2, 11)):
                self.assertEqual(divisor_sum(n, k), sum(d ** k for d in divisors(n)))
        self.assertEqual(divisor_sum(n=999999, k=1), sum(d for d in divisors(999999)))

    def test_wrong(self):
        wrong = [(BadNumber, NO_NUMBERS + [0, -1, 10 ** 6, 10 ** 30]), (BadNumber, NO_NUMBERS + [-1, 12, 10 ** 30])]
        self.fails_in_turn(divisor_sum, [12, 1], wrong)


class TestEisenstein(Case):

    def test_by_hand(self):
        self.assertEqual(self.tell(eisenstein_row, 2, 4), [1, -24, -72, -96, -168])
        self.assertEqual(self.tell(eisenstein_row, 4, 3), [1, 240, 2160, 6720])
        self.assertEqual(self.tell(eisenstein_row, 6, 2), [1, -504, -16632])
        for weight in (2, 4, 6):
            self.assertEqual(self.tell(eisenstein_row, weight, 0), [1])

    def test_by_the_definition(self):
        for weight, factor in FACTORS.items():
            row = eisenstein_row(weight, 3000)
            self.assertEqual(len(row), 3001)
            for n in list(range(1, 100)) + [2999, 3000]:
                self.assertEqual(row[n], factor * divisor_sum(n, weight - 1))
            self.assertEqual(self.tell(eisenstein_row, weight, 70), row[:71])

    def test_discriminant(self):
        four, six = eisenstein_row(4, 60), eisenstein_row(6, 60)
        cube = row_times(four, row_times(four, four))
        less = [x - y for x, y in zip(cube, row_times(six, six))]
        self.assertEqual(less, [0] + [1728 * x for x in row_of({1: 24}, 59)])

    def test_wrong(self):
        weights = NO_NUMBERS + [0, 1, 3, 5, 8, -2, 10 ** 30]
        self.fails_in_turn(eisenstein_row, [4, 5], [(BadWeight, weights), (BadMost, NO_MOSTS)])


if __name__ == "__main__":
    unittest.main()
