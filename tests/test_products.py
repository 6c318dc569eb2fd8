"""Products of powers of (1 - q ** n) ([11])."""

import random
import unittest

from etasure.errors import BadMost, BadRow
from etasure.products import powers_of, product_row, weighted_sums
from tests.helpers import NO_MOSTS, NO_ROWS, Case

CHANCE = random.Random(11)
# [] is right here, and the bound is another one.
NO_POWERS = [thing for thing in NO_ROWS
             if not isinstance(thing, (list, tuple)) or len(thing) not in (0, 3002)] + [[0] * 3001, (1,) * 3001]


def slow_product(powers, most):
    """The product, factor by factor."""
    row = [1] + [0] * most
    for n, power in enumerate(powers, start=1):
        for _ in range(abs(power)):
            places = range(n, most + 1) if power > 0 else range(most, n - 1, -1)
            for place in places:
                row[place] += row[place - n] if power > 0 else -row[place - n]
    return row


def partitions_by_pentagonal_numbers(most):
    """Euler's recurrence."""
    counts = [1]
    for n in range(1, most + 1):
        total, k = 0, 1
        while k * (3 * k - 1) // 2 <= n:
            for place in (k * (3 * k - 1) // 2, k * (3 * k + 1) // 2):
                if place <= n:
                    total += counts[n - place] if k % 2 else -counts[n - place]
            k += 1
        counts.append(total)
    return counts


class TestProductRow(Case):

    def test_partitions(self):
        self.assertEqual(self.tell(product_row, [1] * 10, 10), [1, 1, 2, 3, 5, 7, 11, 15, 22, 30, 42])
        self.assertEqual(product_row([1] * 3000, 200)[200], 3972999029388)
        self.assertEqual(product_row([1] * 1000, 1000)[1000], 24061467864032622473692149727991)

    def test_pentagonal_numbers(self):
        expected = [0] * 3001
        for k in range(-50, 51):
            place = k * (3 * k - 1) // 2
            if place <= 3000:
                expected[place] = -1 if k % 2 else 1
        self.assertEqual(product_row([-1] * 3000, 3000), expected)

    def test_no_powers_and_few(self):
        self.assertEqual(self.tell(product_row, [], 0), [1])
        self.assertEqual(self.tell(product_row, [], 4), [1, 0, 0, 0, 0])
        self.assertEqual(product_row((), 3000), [1] + [0] * 3000)
        self.assertEqual(self.tell(product_row, [5], 0), [1])
        self.assertEqual(self.tell(product_row, [1], 4), [1, 1, 1, 1, 1])
        self.assertEqual(self.tell(product_row, [0, -1], 5), [1, 0, -1, 0, 0, 0])
        self.assertEqual(product_row([0, 0, 2, 0], 7), [1, 0, 0, 2, 0, 0, 3, 0])

    def test_against_the_definition(self):
        for _ in range(150):
            powers = [CHANCE.randint(-4, 4) for _ in range(CHANCE.randint(0, 15))]
            most = CHANCE.randint(0, 25)
            self.assertEqual(self.tell(product_row, powers, most), slow_product(powers, most))

    def test_powers_beyond_the_row_do_not_count(self):
        powers = [CHANCE.randint(-9, 9) for _ in range(3000)]
        self.assertEqual(product_row(powers, 12), product_row(powers[:12], 12))

    def test_great_powers(self):
        great = 10 ** 40
        self.assertEqual(product_row([great], 2), [1, great, great * (great + 1) // 2])
        self.assertEqual(product_row([-great, great], 2), [1, -great, great * (great - 1) // 2 + great])

    def test_longest(self):
        row = product_row([2, -1] * 1500, 3000)
        self.assertEqual(len(row), 3001)
        self.assertEqual(row[:13], slow_product([2, -1] * 6, 12))
        self.assertEqual(product_row([1] * 3000, 3000), partitions_by_pentagonal_numbers(3000))

    def test_wrong(self):
        wrong = [(BadRow, NO_POWERS), (BadMost, NO_MOSTS)]
        self.fails_in_turn(product_row, [[1], 5], wrong)
        self.fails_in_turn(weighted_sums, [[1], 5], wrong)


class TestPowersOf(Case):

    def test_by_hand(self):
        self.assertEqual(self.tell(powers_of, [1, 1, 2, 3, 5, 7]), [1, 1, 1, 1, 1])
        self.assertEqual(self.tell(powers_of, [1]), [])
        self.assertEqual(self.tell(powers_of, [1, 0, 0]), [0, 0])
        self.assertEqual(self.tell(powers_of, [1, 1, 0, 0, 0]), [1, -1, 0, 0])
        self.assertEqual(powers_of([1, 7]), [7])

    def test_from_powers_and_back(self):
        for _ in range(200):
            powers = [CHANCE.randint(-10 ** 9, 10 ** 9) for _ in range(CHANCE.randint(0, 20))]
            self.assertEqual(self.tell(powers_of, product_row(powers, len(powers))), powers)

    def test_from_rows_and_back(self):
        for _ in range(200):
            row = [1] + [CHANCE.randint(-20, 20) for _ in range(CHANCE.randint(0, 20))]
            self.assertEqual(product_row(self.tell(powers_of, row), len(row) - 1), row)

    def test_longest(self):
        powers = [CHANCE.randint(-2, 2) for _ in range(3000)]
        self.assertEqual(powers_of(product_row(powers, 3000)), powers)

    def test_wrong(self):
        self.fails_in_turn(powers_of, [[1]], [(BadRow, NO_ROWS + [[0], [2], [-1, 1], [0, 1], (10 ** 40, 1)])])


class TestWeightedSums(Case):

    def test_sums_of_divisors(self):
        sums = self.tell(weighted_sums, [1] * 100, 100)
        self.assertEqual(sums, [0] + [sum(d for d in range(1, n + 1) if n % d == 0) for n in range(1, 101)])

    def test_against_the_definition(self):
        for _ in range(150):
            powers = [CHANCE.randint(-10 ** 12, 10 ** 12) for _ in range(CHANCE.randint(0, 15))]
            most = CHANCE.randint(0, 40)
            expected = [0] + [sum(d * powers[d - 1] for d in range(1, len(powers) + 1) if n % d == 0)
                              for n in range(1, most + 1)]
            self.assertEqual(self.tell(weighted_sums, powers, most), expected)

    def test_edges(self):
        self.assertEqual(self.tell(weighted_sums, [], 0), [0])
        self.assertEqual(self.tell(weighted_sums, [], 3), [0, 0, 0, 0])
        self.assertEqual(self.tell(weighted_sums, [4, 5], 0), [0])
        self.assertEqual(weighted_sums([3], 3000), [0] + [3] * 3000)
        self.assertEqual(weighted_sums([0] * 2999 + [1], 3000), [0] * 3000 + [3000])

    def test_they_tell_the_row(self):
        for _ in range(60):
            powers = [CHANCE.randint(-5, 5) for _ in range(CHANCE.randint(0, 30))]
            row = product_row(powers, 30)
            sums = weighted_sums(powers, 30)
            for n in range(31):
                self.assertEqual(n * row[n], sum(sums[k] * row[n - k] for k in range(1, n + 1)))


if __name__ == "__main__":
    unittest.main()
