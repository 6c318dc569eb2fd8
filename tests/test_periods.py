"""Products with a period ([100] to [103])."""

import cmath
import random
import unittest
from fractions import Fraction
from math import gcd

from etasure.errors import BadCusp, BadMatrix, BadMost, BadNumber, BadPeriod, BadProduct
from etasure.matrices import composed, inverted, moved, upright
from etasure.periods import (folded, is_period_product, period_moved, period_order, period_row, period_start, refined,
                             stretched, whole_period)
from etasure.quotients import row_of
from etasure.roots import root_of
from etasure.series import series_times
from etasure.sparse import triple_sum
from tests.helpers import NO_CUSPS, NO_MATRICES, NO_MOSTS, NO_NUMBERS, STRANGE, Stubborn, TurnedCase, fraction
from tests.test_cusps import matrix_of_level
from tests.test_matrices import some_cusp
from tests.test_roots import LYING, great_upright, moved_number

CHANCE = random.Random(100)
PERIODS = range(2, 61)
NO_PERIODS = NO_NUMBERS + [0, 1, -2, 61, 10 ** 40]
# Not for the period 5.
NO_PRODUCTS = [
    None, True, 1, "one", [], (), [(1, 1)], {1}, {0: 1}, {3: 1}, {-1: 1}, {5: 1}, {1: 0}, {1: 100}, {1: -100},
    {True: 1}, {1: True}, {2: False}, {1: 1.0}, {1.0: 1}, {"1": 1}, {1: "1"}, {1: None}, {None: 1}, {1: [1]},
    {1: 1, 2: 0}, {1: 1, 3: 1}, {1: Stubborn()}, object(), Stubborn(),
]


def some_product(period, reach=9, count=4):
    chosen = CHANCE.sample(range(1, period // 2 + 1), CHANCE.randint(0, min(count, period // 2)))
    return {g: CHANCE.choice([-1, 1]) * CHANCE.randint(1, reach) for g in chosen}


def some_period_product(reach=9, periods=PERIODS):
    period = CHANCE.choice(periods)
    return period, some_product(period, reach)


def bernoulli(x):
    return x * x - x + Fraction(1, 6)


def start_by_hand(period, product):
    return sum((r * period * bernoulli(Fraction(g, period)) / 2 for g, r in product.items()), Fraction(0))


def slow_row(period, product, most):
    """The product of its own factors, one after another."""
    row = [1] + [0] * most
    for g, r in product.items():
        for m in range(1, most // period + 3):
            for n in ((m - 1) * period + g, m * period - g):
                for _ in range(abs(r)):
                    for place in range(most, n - 1, -1) if r > 0 else range(n, most + 1):
                        row[place] += -row[place - n] if r > 0 else row[place - n]
    return row


def part_at(period, g, tau):
    """E(g) itself at tau, as a complex number."""
    turns, rest = divmod(g, period)
    q = cmath.exp(2j * cmath.pi * tau)
    told = cmath.exp(2j * cmath.pi * tau * float(period * bernoulli(Fraction(rest, period)) / 2))
    for m in range(1, 600 // period + 3):
        told *= (1 - q ** ((m - 1) * period + rest)) * (1 - q ** (m * period - rest))
    return -told if turns % 2 else told


def worth(period, product, tau):
    told = 1
    for g, r in product.items():
        told *= part_at(period, g, tau) ** r
    return told


class TestProducts(TurnedCase):

    def test_is_period_product(self):
        right = [{}, {1: 1}, {2: -99}, {2: 99, 1: -1}, {1: 1, 2: 1}]
        self.judges(is_period_product, right, NO_PRODUCTS + [[{}], ({},)], 5)
        for period in PERIODS:
            half = period // 2
            self.assertIs(self.tell(is_period_product, period, {half: 99}), True)
            self.assertIs(self.tell(is_period_product, period, {half + 1: 99}), False)
        self.assertIs(is_period_product(2, {1: -99}), True)
        for period in NO_PERIODS:
            for thing in ({}, None, {1: 1}):
                self.fails(BadPeriod, is_period_product, period, thing)

    def test_folded_by_hand(self):
        for g, expected in ((1, (1, 1)), (3, (1, 2)), (4, (1, 1)), (6, (-1, 1)), (9, (-1, 1)), (-1, (-1, 1)),
                            (-6, (1, 1)), (11, (1, 1)), (10 ** 40 + 2, (1, 2))):
            self.assertEqual(self.tell(folded, 5, g), expected)
        self.assertEqual(self.tell(folded, 2, 1), (1, 1))
        self.assertEqual(self.tell(folded, 2, 3), (-1, 1))
        self.assertEqual(self.tell(folded, 60, 31), (1, 29))

    def test_folded(self):
        for _ in range(500):
            period = CHANCE.choice(PERIODS)
            g = CHANCE.choice([CHANCE.randint(-200, 200), CHANCE.randint(-(10 ** 40), 10 ** 40)])
            if g % period == 0:
                self.fails(BadNumber, folded, period, g)
                continue
            sign, h = self.tell(folded, period, g)
            self.assertTrue(1 <= h <= period // 2)
            self.assertTrue((g - h) % period == 0 or (g + h) % period == 0)
            self.assertEqual(folded(period, g + period), (-sign, h))
            self.assertEqual(folded(period, -g), (-sign, h))
            if 0 < g < period:
                self.assertEqual((sign, h), (1, min(g, period - g)))

    def test_folded_wrong(self):
        for g in (0, 5, -5, 10 ** 40 * 5, 10):
            self.fails(BadNumber, folded, 5, g)
        self.fails_in_turn(folded, [5, 1], [(BadPeriod, NO_PERIODS), (BadNumber,
                                                                      NO_NUMBERS + [0, 5, -10, 5 * 10 ** 40])])

    def test_start_by_hand(self):
        self.assertEqual(self.tell(period_start, 5, {1: 1}), (1, 60))
        self.assertEqual(self.tell(period_start, 5, {2: 1}), (-11, 60))
        self.assertEqual(self.tell(period_start, 5, {}), (0, 1))
        self.assertEqual(self.tell(period_start, 2, {1: 99}), (-33, 4))
        self.assertEqual(self.tell(period_row, 5, {}, 3), [1, 0, 0, 0])
        # Rogers and Ramanujan: parts that leave 1 or 4 by 5.
        self.assertEqual(self.tell(period_row, 5, {1: -1}, 10), [1, 1, 1, 1, 2, 2, 3, 3, 4, 5, 6])
        self.assertEqual(self.tell(period_row, 2, {1: 1}, 4), [1, -2, 1, -2, 4])

    def test_starts_and_rows(self):
        for _ in range(120):
            period, product = some_period_product(3)
            self.assertEqual(fraction(self.tell(period_start, period, product)), start_by_hand(period, product))
            most = CHANCE.choice([0, 1, 25])
            self.assertEqual(self.tell(period_row, period, product, most), slow_row(period, product, most))
        for period in (2, 3, 60):
            wide = {g: 99 if g % 2 else -99 for g in range(1, period // 2 + 1)}
            self.assertEqual(fraction(period_start(period, wide)), start_by_hand(period, wide))
            self.assertEqual(period_row(period, wide, 12), slow_row(period, wide, 12))
        self.assertEqual(len(period_row(7, {1: 1, 2: -1, 3: 99}, 3000)), 3001)

    def test_jacobi(self):
        for period in PERIODS:
            for g in CHANCE.sample(range(1, period), min(4, period - 1)):
                sign, h = folded(period, g)
                self.assertEqual(sign, 1)
                row = series_times(period_row(period, {h: 1}, 300), row_of({period: 1}, 300), 301)
                self.assertEqual(row, triple_sum(period, g, -1, 300))

    def test_wrong(self):
        wrong = [(BadPeriod, NO_PERIODS), (BadProduct, NO_PRODUCTS)]
        self.fails_in_turn(period_start, [5, {1: 1}], wrong)
        self.fails_in_turn(period_row, [5, {1: 1}, 3], wrong + [(BadMost, NO_MOSTS)])
        for thing in STRANGE:
            self.fails(BadProduct, period_start, 5, thing)


class TestOtherPeriods(TurnedCase):

    def test_by_hand(self):
        self.assertEqual(self.tell(stretched, 5, {1: 2, 2: -1}, 3), {3: 2, 6: -1})
        self.assertEqual(self.tell(stretched, 60, {30: 1}, 1), {30: 1})
        self.assertEqual(self.tell(refined, 3, {1: 2}, 2), {1: 2, 2: 2})
        self.assertEqual(self.tell(refined, 2, {1: 1}, 2), {1: 2})
        self.assertEqual(self.tell(refined, 2, {1: 1}, 3), {1: 2, 3: 1})
        self.assertEqual(self.tell(refined, 5, {2: 1, 1: -1}, 2), {1: -1, 2: 1, 3: 1, 4: -1})
        self.assertEqual(self.tell(whole_period, 5), {1: 2, 2: 2})
        self.assertEqual(self.tell(whole_period, 6), {1: 2, 2: 2, 3: 1})
        self.assertEqual(self.tell(whole_period, 2), {1: 1})

    def test_rows(self):
        for _ in range(80):
            period, product = some_period_product(5, range(2, 31))
            k = CHANCE.randint(1, 60 // period)
            wide = self.tell(stretched, period, product, k)
            self.assertIs(is_period_product(k * period, wide), True)
            self.assertEqual(list(wide), sorted(wide))
            self.assertEqual(fraction(period_start(k * period, wide)), k * fraction(period_start(period, product)))
            expected = [0] * 61
            expected[::k] = period_row(period, product, 60 // k)
            self.assertEqual(period_row(k * period, wide, 60), expected)
            fine = self.tell(refined, period, product, k)
            self.assertIs(is_period_product(k * period, fine), True)
            self.assertEqual(list(fine), sorted(fine))
            self.assertEqual(period_start(k * period, fine), period_start(period, product))
            self.assertEqual(period_row(k * period, fine, 60), period_row(period, product, 60))

    def test_signs_of_refined_parts(self):
        # E(g) itself, with its sign, is the product of all E(g + j * N) with the greater period.
        for period, k, g in ((2, 3, 1), (2, 2, 1), (5, 4, 3), (7, 3, 6), (12, 5, 6)):
            told = 1
            for j in range(k):
                told *= folded(k * period, g + j * period)[0]
            self.assertEqual(told, folded(period, g)[0])

    def test_whole_periods(self):
        for period in PERIODS:
            told = self.tell(whole_period, period)
            self.assertEqual(list(told), list(range(1, period // 2 + 1)))
            expected = {}
            for g in range(1, period):
                h = folded(period, g)[1]
                expected[h] = expected.get(h, 0) + 1
            self.assertEqual(told, expected)
            self.assertEqual(period_row(period, told, 150), row_of({1: 2, period: -2}, 150))
            self.assertEqual(fraction(period_start(period, told)), Fraction(2 - 2 * period, 24))

    def test_bounds(self):
        self.assertEqual(stretched(30, {15: 99}, 2), {30: 99})
        self.assertEqual(stretched(2, {1: 1}, 30), {30: 1})
        for function in (stretched, refined):
            self.assertEqual(function(7, {}, 8), {})
            for period, k in ((7, 9), (31, 2), (2, 31), (60, 2), (5, 10 ** 40)):
                self.fails_many(60, function, period, {1: 1}, k)
                self.fails_many(60, function, period, {}, k)
        # The part in the middle of the period comes twice.
        self.assertEqual(refined(2, {1: 49}, 2), {1: 98})
        self.fails_many(99, refined, 2, {1: 50}, 2)
        self.fails_many(99, refined, 10, {5: -50, 1: 1}, 3)
        self.assertEqual(refined(10, {5: -49}, 3), {5: -98, 15: -49})
        self.assertEqual(refined(10, {4: 99, 1: -99}, 2), {1: -99, 4: 99, 6: 99, 9: -99})
        self.assertEqual(refined(2, {1: 99}, 1), {1: 99})
        self.fails_many(60, refined, 2, {1: 50}, 31)

    def test_wrong(self):
        for function in (stretched, refined):
            self.fails_in_turn(function, [5, {1: 1}, 2], [(BadPeriod, NO_PERIODS), (BadProduct, NO_PRODUCTS),
                                                          (BadNumber, NO_NUMBERS + [0, -1, -(10 ** 40)])])
        self.fails_in_turn(whole_period, [5], [(BadPeriod, NO_PERIODS)])


class TestMoved(TurnedCase):

    def test_by_hand(self):
        self.assertEqual(self.tell(period_moved, 5, {1: 1}, (1, 1, 0, 1)), ((1, 60), {1: 1}))
        self.assertEqual(self.tell(period_moved, 5, {}, (1, 1, 0, 1)), ((0, 1), {}))
        self.assertEqual(self.tell(period_moved, 5, {1: 3, 2: -1}, (1, 0, 0, 1)), ((0, 1), {1: 3, 2: -1}))
        # By (2, 1, 5, 3): root_of((2, 5, 1, 3)) is 5 - 3 = 2, 2 / 12 + 1 / 2 + 2 / 10 = 52 / 60, and E(2) comes.
        self.assertEqual(root_of((2, 5, 1, 3)), 2)
        self.assertEqual(self.tell(period_moved, 5, {1: 1}, (2, 1, 5, 3)), ((13, 15), {2: 1}))

    def test_by_the_sentence(self):
        for _ in range(150):
            period, product = some_period_product()
            matrix = upright(matrix_of_level(period)) if CHANCE.random() < 0.7 else great_upright(period)
            a, b, c, d = matrix
            total, other = Fraction(0), {}
            for g, r in product.items():
                one = Fraction(root_of((a, b * period, c // period, d)), 12) + Fraction(g * b, 2)
                one += Fraction(g * g * a * b, 2 * period)
                sign, h = folded(period, a * g)
                total += r * (one + (Fraction(1, 2) if sign == -1 else 0))
                other[h] = r
            told = self.tell(period_moved, period, product, matrix)
            self.assertEqual(fraction(told[0]), total % 1)
            self.assertEqual(told[1], other)
            self.assertEqual(list(told[1]), sorted(other))

    def test_against_the_product_itself(self):
        tau, checked = 0.21 + 0.5j, 0
        for _ in range(400):
            period, product = some_period_product(2, range(2, 13))
            matrix = upright(matrix_of_level(period))
            at = moved_number(matrix, tau)
            if at.imag < 0.02:
                continue
            checked += 1
            factor, other = period_moved(period, product, matrix)
            expected = cmath.exp(2j * cmath.pi * float(fraction(factor))) * worth(period, other, tau)
            self.assertLess(abs(worth(period, product, at) - expected), 1e-6 * abs(expected))
        self.assertGreater(checked, 100)

    def test_one_after_another(self):
        for _ in range(250):
            period, product = some_period_product(99)
            one, other = (upright(matrix_of_level(period)) for _ in range(2))
            if CHANCE.random() < 0.2:
                one, other = great_upright(period), great_upright(period)
            for second in (other, upright(inverted(one)), (1, -3, 0, 1)):
                x, near = period_moved(period, product, one)
                y, far = period_moved(period, near, second)
                told = period_moved(period, product, upright(composed(one, second)))
                self.assertEqual((fraction(told[0]), told[1]), ((fraction(x) + fraction(y)) % 1, far))

    def test_turns(self):
        # T tells the start modulo 1.
        for period in PERIODS:
            product = some_product(period, 99)
            told = period_moved(period, product, (1, 1, 0, 1))
            self.assertEqual(fraction(told[0]), fraction(period_start(period, product)) % 1)
            self.assertEqual(told[1], product)

    def test_wrong(self):
        wrong = NO_MATRICES + LYING + [(0, -1, 1, 0), (1, 0, 2, 1), (1, 0, -5, 1), (-1, 0, -5, -1)]
        self.fails_in_turn(period_moved, [5, {1: 1}, (1, 0, 5, 1)],
                           [(BadPeriod, NO_PERIODS), (BadProduct, NO_PRODUCTS), (BadMatrix, wrong)])


class TestOrders(TurnedCase):

    def test_by_hand(self):
        self.assertEqual(self.tell(period_order, 5, {1: 1}, (1, 0)), (1, 60))
        self.assertEqual(self.tell(period_order, 5, {2: 1}, (1, 0)), (-11, 60))
        self.assertEqual(self.tell(period_order, 5, {1: 1}, (2, 5)), (-11, 60))
        self.assertEqual(self.tell(period_order, 5, {1: 1}, (0, 1)), (1, 60))
        self.assertEqual(self.tell(period_order, 6, {1: 1}, (1, 2)), (-1, 36))
        self.assertEqual(self.tell(period_order, 5, {}, (7, 3)), (0, 1))

    def test_by_the_sentence(self):
        for _ in range(300):
            period, product = some_period_product(99)
            a, c = some_cusp()
            if CHANCE.random() < 0.3:
                a, c = moved(great_upright(1), (a, c))
            common = gcd(c, period)
            expected = Fraction(0)
            for g, r in product.items():
                x = Fraction(a * g, common)
                expected += r * Fraction(common * common, 2 * period) * bernoulli(x - x.__floor__())
            self.assertEqual(fraction(self.tell(period_order, period, product, (a, c))), expected)

    def test_at_infinity(self):
        for _ in range(60):
            period, product = some_period_product(99)
            self.assertEqual(period_order(period, product, (1, 0)), period_start(period, product))

    def test_moved_cusps(self):
        for _ in range(300):
            period, product = some_period_product(9)
            matrix, cusp = upright(matrix_of_level(period)), some_cusp()
            other = period_moved(period, product, matrix)[1]
            self.assertEqual(period_order(period, product, moved(matrix, cusp)), period_order(period, other, cusp))

    def test_wrong(self):
        self.fails_in_turn(period_order, [5, {1: 1}, (1, 0)],
                           [(BadPeriod, NO_PERIODS), (BadProduct, NO_PRODUCTS), (BadCusp, NO_CUSPS)])


if __name__ == "__main__":
    unittest.main()
