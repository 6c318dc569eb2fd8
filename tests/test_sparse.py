"""Sums that are products ([12])."""

import unittest

from etasure.errors import BadMost, BadNumber, BadStep
from etasure.sparse import quintuple_product, quintuple_sum, triple_product, triple_sum
from tests.helpers import NO_MOSTS, NO_NUMBERS, Case


def slow_triple_sum(m, s, sign, most):
    row = [0] * (most + 1)
    for k in range(-most - 2, most + 3):
        place = m * k * (k - 1) // 2 + s * k
        if place <= most:
            row[place] += sign ** abs(k)
    return row


def slow_quintuple_sum(m, s, most):
    row = [0] * (most + 1)
    for k in range(-most - 2, most + 3):
        for place, number in ((m * k * (3 * k + 1) // 2 - 3 * k * s, 1),
                              (m * k * (3 * k + 1) // 2 + (3 * k + 1) * s, -1)):
            if place <= most:
                row[place] += number
    return row


def slow_product(factors, most):
    """The product of 1 + number * q ** place over pairs (place, number)."""
    row = [1] + [0] * most
    for place, number in factors:
        for n in range(most, place - 1, -1):
            row[n] += number * row[n - place]
    return row


def triple_factors(m, s, sign, most):
    for n in range(1, most + 2):
        yield from ((m * n, -1), (m * n - s, sign), (m * n - m + s, sign))


def quintuple_factors(m, s, most):
    for n in range(1, most + 2):
        yield from ((m * n, -1), (m * n - s, -1), (m * n - m + s, -1))
        yield from ((2 * m * n - m - 2 * s, -1), (2 * m * n - m + 2 * s, -1))


NO_STEPS = NO_NUMBERS + [1, 0, -5, 201, 10 ** 20]


class TestTriple(Case):

    def test_by_hand(self):
        self.assertEqual(self.tell(triple_sum, 3, 1, -1, 7), [1, -1, -1, 0, 0, 1, 0, 1])
        self.assertEqual(self.tell(triple_product, 3, 1, -1, 7), [1, -1, -1, 0, 0, 1, 0, 1])
        self.assertEqual(self.tell(triple_sum, 2, 1, 1, 9), [1, 2, 0, 0, 2, 0, 0, 0, 0, 2])
        self.assertEqual(self.tell(triple_sum, 2, 1, -1, 4), [1, -2, 0, 0, 2])

    def test_against_the_definitions(self):
        for m in range(2, 12):
            for s in range(1, m):
                for sign in (1, -1):
                    for most in (0, 1, 2, 3, 17, 40):
                        expected = slow_triple_sum(m, s, sign, most)
                        self.assertEqual(self.tell(triple_sum, m, s, sign, most), expected)
                        self.assertEqual(self.tell(triple_product, m, s, sign, most), expected)
                    factors = triple_factors(m, s, sign, 40)
                    self.assertEqual(slow_product(factors, 40), slow_triple_sum(m, s, sign, 40))

    def test_equal_for_all_steps(self):
        for m in range(2, 201):
            for s in {1, m // 2, m - 1, m // 3 + 1} - {0}:
                if s < m:
                    for sign in (1, -1):
                        self.assertEqual(triple_sum(m, s, sign, 150), triple_product(m, s, sign, 150))

    def test_longest(self):
        for m, s, sign in ((2, 1, 1), (2, 1, -1), (3, 1, -1), (5, 4, 1), (200, 1, 1), (200, 199, -1), (7, 3, -1)):
            row = triple_sum(m, s, sign, 3000)
            self.assertEqual(len(row), 3001)
            self.assertEqual(triple_product(m, s, sign, 3000), row)
            self.assertEqual(slow_triple_sum(m, s, sign, 3000), row)

    def test_every_last_place_counts(self):
        whole = triple_sum(2, 1, 1, 130)
        for most in range(131):
            self.assertEqual(triple_sum(2, 1, 1, most), whole[:most + 1])
            self.assertEqual(triple_product(2, 1, 1, most), whole[:most + 1])

    def test_wrong(self):
        wrong = [(BadStep, NO_STEPS), (BadStep, NO_NUMBERS + [0, -1, 5, 6, 10 ** 20]),
                 (BadNumber, NO_NUMBERS + [0, 2, -2, 10 ** 20]), (BadMost, NO_MOSTS)]
        for function in (triple_sum, triple_product):
            self.fails_in_turn(function, [5, 4, -1, 10], wrong)
            self.fails(BadStep, function, 2, 2, 1, 10)
            self.fails(BadStep, function, 2, 200, 7, -1)


class TestQuintuple(Case):

    def test_by_hand(self):
        # By k = 0: 1 - q; by k = -1: q ** 8 - q ** 3; by k = 1: q ** 7 - q ** 14.
        self.assertEqual(self.tell(quintuple_sum, 5, 1, 9), [1, -1, 0, -1, 0, 0, 0, 1, 1, 0])
        self.assertEqual(self.tell(quintuple_product, 5, 1, 9), [1, -1, 0, -1, 0, 0, 0, 1, 1, 0])
        # By k = 0: 1 - q; by k = -1: q ** 6 - q; by k = 1: q ** 3 - q ** 10. Two terms meet at q.
        self.assertEqual(self.tell(quintuple_sum, 3, 1, 6), [1, -2, 0, 1, 0, 0, 1])

    def test_against_the_definitions(self):
        for m in range(3, 14):
            for s in range(1, (m + 1) // 2):
                for most in (0, 1, 2, 3, 17, 40):
                    expected = slow_quintuple_sum(m, s, most)
                    self.assertEqual(self.tell(quintuple_sum, m, s, most), expected)
                    self.assertEqual(self.tell(quintuple_product, m, s, most), expected)
                self.assertEqual(slow_product(quintuple_factors(m, s, 40), 40), slow_quintuple_sum(m, s, 40))

    def test_equal_for_all_steps(self):
        for m in range(3, 201):
            for s in {1, (m - 1) // 2, m // 3}:
                if 0 < 2 * s < m:
                    self.assertEqual(quintuple_sum(m, s, 150), quintuple_product(m, s, 150))

    def test_longest(self):
        for m, s in ((3, 1), (4, 1), (5, 2), (200, 1), (200, 99), (199, 99), (11, 3)):
            row = quintuple_sum(m, s, 3000)
            self.assertEqual(len(row), 3001)
            self.assertEqual(quintuple_product(m, s, 3000), row)
            self.assertEqual(slow_quintuple_sum(m, s, 3000), row)

    def test_every_last_place_counts(self):
        whole = quintuple_sum(3, 1, 130)
        for most in range(131):
            self.assertEqual(quintuple_sum(3, 1, most), whole[:most + 1])
            self.assertEqual(quintuple_product(3, 1, most), whole[:most + 1])

    def test_wrong(self):
        wrong = [(BadStep, NO_STEPS), (BadStep, NO_NUMBERS + [0, -1, 3, 4, 5, 6, 10 ** 20]), (BadMost, NO_MOSTS)]
        for function in (quintuple_sum, quintuple_product):
            self.fails_in_turn(function, [6, 2, 10], wrong)
            self.fails(BadStep, function, 2, 1, 10)
            self.fails(BadStep, function, 200, 100, 10)
            self.fails(BadStep, function, 5, 3, None)


if __name__ == "__main__":
    unittest.main()
