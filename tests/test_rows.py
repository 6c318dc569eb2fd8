"""Rows ([10])."""

import random
import unittest

from etasure.errors import BadNumber, BadRow
from etasure.rows import (is_row, row_inverse, row_plus, row_power, row_section, row_spread, row_times, row_woven)
from tests.helpers import NO_NUMBERS, NO_ROWS, Case

CHANCE = random.Random(10)


def some_row(size, first=None, reach=9):
    row = [CHANCE.randint(-reach, reach) for _ in range(size)]
    if first is not None:
        row[0] = first
    return row


def slow_times(one, other):
    size = min(len(one), len(other))
    found = [0] * size
    for i in range(size):
        for j in range(size - i):
            found[i + j] += one[i] * other[j]
    return found


def one_row(size):
    return [1] + [0] * (size - 1)


class TestJudged(Case):

    def test_is_row(self):
        right = [[0], (0,), [1, 2, 3], (-1, 10 ** 500), [0] * 3001, (7,) * 3001, [-(10 ** 400)]]
        self.judges(is_row, right, NO_ROWS)

    def test_by_name(self):
        self.assertIs(is_row(thing=[1]), True)
        self.assertIs(is_row(thing=[]), False)


class TestSumAndProduct(Case):

    def test_by_hand(self):
        self.assertEqual(self.tell(row_plus, [1, 2, 3], [10, 20]), [11, 22])
        self.assertEqual(self.tell(row_times, [1, 2, 3], [1, 1]), [1, 3])
        self.assertEqual(self.tell(row_times, [1, 2, 3], [4, 5, 6]), [4, 13, 28])
        self.assertEqual(self.tell(row_times, [5], [7, 1, 2]), [35])

    def test_against_the_definition(self):
        for _ in range(200):
            one = some_row(CHANCE.randint(1, 12))
            other = some_row(CHANCE.randint(1, 12), reach=10 ** 30)
            self.assertEqual(self.tell(row_times, one, other), slow_times(one, other))
            self.assertEqual(row_times(other, one), slow_times(one, other))
            self.assertEqual(self.tell(row_plus, one, other), [x + y for x, y in zip(one, other)])

    def test_longest(self):
        ones = [1] * 3001
        self.assertEqual(row_times(ones, ones), list(range(1, 3002)))
        self.assertEqual(row_plus(ones, ones), [2] * 3001)
        self.assertEqual(row_times(ones, [3]), [3])
        self.assertEqual(row_plus([3], ones), [4])

    def test_results_are_new_lists(self):
        row = [1, 2]
        for told in (row_plus(row, row), row_times(row, [1, 0]), row_power(row, 1), row_spread(row, 1),
                     row_section(row, 1, 0), row_woven([row]), row_inverse([1, 0])):
            self.assertIs(type(told), list)
            self.assertIsNot(told, row)

    def test_wrong(self):
        for function in (row_plus, row_times):
            self.fails_in_turn(function, [[1], [1]], [(BadRow, NO_ROWS), (BadRow, NO_ROWS)])


class TestInverse(Case):

    def test_by_hand(self):
        self.assertEqual(self.tell(row_inverse, [1, -1, 0, 0]), [1, 1, 1, 1])
        self.assertEqual(self.tell(row_inverse, [-1, 1, 0]), [-1, -1, -1])
        self.assertEqual(self.tell(row_inverse, [1]), [1])
        self.assertEqual(self.tell(row_inverse, [-1]), [-1])
        self.assertEqual(self.tell(row_inverse, [1, 2, 0, 0]), [1, -2, 4, -8])

    def test_product_is_one(self):
        for _ in range(200):
            size = CHANCE.randint(1, 25)
            row = some_row(size, CHANCE.choice([1, -1]), CHANCE.choice([2, 9, 10 ** 20]))
            inverse = self.tell(row_inverse, row)
            self.assertEqual(len(inverse), size)
            self.assertEqual(slow_times(row, inverse), one_row(size))
            self.assertEqual(row_inverse(inverse), row)

    def test_longest(self):
        for first in (1, -1):
            row = [first] + [CHANCE.choice([0, 0, 0, 1, -1]) for _ in range(3000)]
            self.assertEqual(row_times(row, row_inverse(row)), one_row(3001))

    def test_wrong(self):
        self.fails_in_turn(row_inverse, [[1]], [(BadRow, NO_ROWS + [[0], [2], [-2, 1], [0, 1], [10 ** 50], (3, 1)])])


class TestPower(Case):

    def test_by_hand(self):
        self.assertEqual(self.tell(row_power, [1, 1, 0, 0], 2), [1, 2, 1, 0])
        self.assertEqual(self.tell(row_power, [1, -1, 0, 0], -2), [1, 2, 3, 4])
        self.assertEqual(self.tell(row_power, [2, 1], 3), [8, 12])
        self.assertEqual(self.tell(row_power, [0, 1, 1, 0, 0], 2), [0, 0, 1, 2, 1])
        self.assertEqual(self.tell(row_power, [-1, 1], -3), [-1, -3])

    def test_exponent_zero(self):
        for row in ([0], [5], [0, 0, 3], [7, 1], [-1, 4], [0] * 3001):
            self.assertEqual(self.tell(row_power, row, 0), one_row(len(row)))

    def test_zeros_ahead(self):
        for row in ([0], [0, 0], [0, 5], [0, 0, 2, 1, 1, 1, 1, 1, 1], [0, -1, 3, 2, 2, 1]):
            power = row
            for k in range(1, 61):
                self.assertEqual(row_power(row, k), power)
                power = slow_times(power, row)
        self.assertEqual(row_power([0, 1] + [0] * 59, 60), [0] * 60 + [1])
        self.assertEqual(row_power([0, 1] + [0] * 58, 60), [0] * 60)

    def test_all_powers_one_after_another(self):
        for first in (1, -1):
            row = some_row(14, first)
            powers = {k: self.tell(row_power, row, k) for k in range(-60, 61)}
            self.assertEqual(powers[1], row)
            self.assertEqual(powers[-1], row_inverse(row))
            for k in range(-60, 60):
                self.assertEqual(slow_times(powers[k], row), powers[k + 1], k)

    def test_powers_add_up_and_lead_back(self):
        for _ in range(60):
            row = some_row(CHANCE.randint(1, 14), CHANCE.choice([1, -1]))
            j, k = CHANCE.randint(-30, 30), CHANCE.randint(-30, 30)
            self.assertEqual(slow_times(row_power(row, j), row_power(row, k)), row_power(row, j + k))
            self.assertEqual(row_power(row_power(row, k), -1), row_power(row, -k))
            self.assertEqual(row_power(row_power(row, 7), 8), row_power(row, 56))
            self.assertEqual(row_power(row_power(row, -7), -8), row_power(row, 56))

    def test_rows_that_begin_otherwise(self):
        for first in (2, -3, 10 ** 20, 0):
            row = some_row(9, first)
            power = row
            for k in range(1, 61):
                self.assertEqual(row_power(row, k), power)
                power = slow_times(power, row)

    def test_longest(self):
        row = [1, -1] + [0] * 2999
        self.assertEqual(row_power(row, -2), list(range(1, 3002)))
        tall = row_power(row, -60)
        self.assertEqual(len(tall), 3001)
        self.assertEqual(row_times(tall, row_power(row, 60)), one_row(3001))
        dense = [-1] + some_row(3000, reach=3)
        self.assertEqual(row_power(dense, 2), row_times(dense, dense))

    def test_wrong(self):
        self.fails_in_turn(row_power, [[1, 2], 2], [(BadRow, NO_ROWS), (BadNumber, NO_NUMBERS + [61, -61, 10 ** 30])])

    def test_beginning_counts_below_zero_only(self):
        for row in ([0], [2, 1], [-2], [0, 1]):
            self.fails(BadRow, row_power, row, -1)
            self.fails(BadRow, row_power, row, -60)
            self.fails(BadNumber, row_power, row, -61)
            self.fails(BadNumber, row_power, row, None)
            self.assertEqual(row_power(row, 1), row)


class TestSpreadAndSection(Case):

    def test_by_hand(self):
        self.assertEqual(self.tell(row_spread, [1, 2], 3), [1, 0, 0, 2, 0, 0])
        self.assertEqual(self.tell(row_spread, [1, 2], 1), [1, 2])
        self.assertEqual(self.tell(row_section, [5, 6, 7, 8, 9], 2, 0), [5, 7, 9])
        self.assertEqual(self.tell(row_section, [5, 6, 7, 8, 9], 2, 1), [6, 8])
        self.assertEqual(self.tell(row_section, [5, 6, 7, 8, 9], 1, 0), [5, 6, 7, 8, 9])
        self.assertEqual(self.tell(row_section, [5, 6, 7, 8, 9], 360, 4), [9])

    def test_spread_and_back(self):
        for m in range(1, 361):
            row = some_row(CHANCE.randint(1, min(20, 3001 // m)))
            spread = self.tell(row_spread, row, m)
            self.assertEqual(len(spread), m * len(row))
            self.assertEqual(row_section(spread, m, 0), row)
            for t in {1 % m, m // 2, m - 1} - {0}:
                self.assertEqual(row_section(spread, m, t), [0] * len(row))

    def test_spread_limit(self):
        self.assertEqual(len(row_spread([1] * 8, 360)), 2880)
        self.fails_many(3000, row_spread, [1] * 9, 360)
        self.assertEqual(row_spread([1] * 3001, 1), [1] * 3001)
        self.assertEqual(len(row_spread([1] * 1500, 2)), 3000)
        self.fails_many(3000, row_spread, [1] * 1501, 2)
        self.assertEqual(len(row_spread([1, 2], 360)), 720)

    def test_spread_wrong(self):
        wrong = [(BadRow, NO_ROWS), (BadNumber, NO_NUMBERS + [0, -1, 361, 10 ** 30])]
        self.fails_in_turn(row_spread, [[1], 1], wrong)
        self.fails(BadNumber, row_spread, [1] * 3001, 361)

    def test_section_edges(self):
        row = list(range(3001))
        for m in range(1, 361):
            for t in {0, m // 2, m - 1}:
                self.assertEqual(row_section(row, m, t), list(range(t, 3001, m)))
            self.fails(BadNumber, row_section, row, m, m)
            self.fails(BadNumber, row_section, row, m, -1)

    def test_section_needs_a_coefficient(self):
        for size in range(1, 9):
            row = list(range(size))
            for t in range(12):
                if t < size:
                    self.assertEqual(row_section(row, 12, t), [t])
                else:
                    self.fails(BadRow, row_section, row, 12, t)

    def test_section_wrong(self):
        wrong = [(BadRow, NO_ROWS), (BadNumber, NO_NUMBERS + [0, -1, 361]), (BadNumber, NO_NUMBERS + [-1, 3, 4])]
        self.fails_in_turn(row_section, [[1, 2, 3], 3, 2], wrong)
        self.fails(BadNumber, row_section, [1], 2, 2)


class TestWoven(Case):

    def test_by_hand(self):
        self.assertEqual(self.tell(row_woven, [[1, 2], [10, 20]]), [1, 10, 2, 20])
        self.assertEqual(self.tell(row_woven, [[1, 2, 3], [10]]), [1, 10, 2])
        self.assertEqual(self.tell(row_woven, [[1], [10, 20]]), [1, 10])
        self.assertEqual(self.tell(row_woven, [[4, 5]]), [4, 5])
        self.assertEqual(row_woven(([1], (2,))), [1, 2])

    def test_up_to_the_first_missing_place(self):
        for _ in range(300):
            m = CHANCE.randint(1, 9)
            rows = [some_row(CHANCE.randint(1, 7)) for _ in range(m)]
            known = {m * i + t: x for t, row in enumerate(rows) for i, x in enumerate(row)}
            expected = []
            while len(expected) in known:
                expected.append(known[len(expected)])
            self.assertEqual(self.tell(row_woven, rows), expected)

    def test_sections_of_woven_rows(self):
        for m in (1, 2, 7, 59, 360):
            rows = [some_row(8) for _ in range(m)]
            woven = row_woven(rows)
            self.assertEqual([row_section(woven, m, t) for t in range(m)], rows)

    def test_woven_sections(self):
        for _ in range(200):
            row = some_row(CHANCE.randint(1, 60))
            m = CHANCE.randint(1, min(9, len(row)))
            self.assertEqual(row_woven([row_section(row, m, t) for t in range(m)]), row)
        row = list(range(3001))
        for m in (1, 2, 3, 10, 59, 100, 359, 360):
            self.assertEqual(row_woven([row_section(row, m, t) for t in range(m)]), row)

    def test_limit(self):
        self.assertEqual(row_woven([[1] * 3001]), [1] * 3001)
        self.assertEqual(len(row_woven([[1] * 1501, [1] * 1500])), 3001)
        self.fails_many(3000, row_woven, [[1] * 1501, [1] * 1501])
        self.fails_many(3000, row_woven, [[1] * 3001] * 360)
        self.assertEqual(len(row_woven([[1] * 3001] * 359 + [[1] * 7])), 360 * 7 + 359)
        self.assertEqual(len(row_woven([[1]] + [[1] * 3001] * 359)), 360)

    def test_wrong(self):
        wrong = [None, 1, True, "12", [], (), [1], [[]], [[1], []], [[1], [True]], [[1], None], [[1]] * 361,
                 ([1],) * 361, {0: [1]}, range(2), [[1], [0] * 3002], iter([[1]]), object()]
        self.fails_in_turn(row_woven, [[[1]]], [(BadRow, wrong)])
        self.fails(BadRow, row_woven, [[1] * 3001] * 359 + [[]])


if __name__ == "__main__":
    unittest.main()
