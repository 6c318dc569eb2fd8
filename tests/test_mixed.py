"""Mixed terms ([105]), and their multipliers at turns around cusps ([23], [34], [40])."""

import cmath
import random
import unittest
from fractions import Fraction

from etasure.cusps import all_cusps, turn_at, width_of
from etasure.errors import BadCusp, BadLevel, BadMatrix, BadMost, BadPeriod, BadTerm
from etasure.groups import generators
from etasure.matrices import composed, inverted, moved, upright
from etasure.mixed import is_mixed, mixed_multiplier, mixed_order, mixed_row, mixed_start, same_sort
from etasure.multipliers import multiplier
from etasure.narrow import is_narrow, narrow_cusps, narrow_generators
from etasure.orders import order_at
from etasure.periods import period_order, period_row, period_start
from etasure.quotients import row_of, start_of
from etasure.series import series_times
from tests.helpers import (NO_CUSPS, NO_LEVELS, NO_MATRICES, NO_MOSTS, NO_QUOTIENTS, STRANGE, Stubborn, TurnedCase,
                           divisors, fraction)
from tests.test_classes import some_borne
from tests.test_matrices import some_cusp
from tests.test_narrow import some_narrow
from tests.test_periods import NO_PERIODS, NO_PRODUCTS, some_product, worth
from tests.test_roots import LYING, eta, moved_number

CHANCE = random.Random(105)
GREAT = 10 ** 60
# Not for the period 5.
NO_MIXED = [
    None, True, 1, "one", (), (1, {}), (1, {}, {}, {}), [1, {}, {}], (0, {}, {}), (True, {}, {}), (1.0, {}, {}),
    (GREAT + 1, {}, {}), (-GREAT - 1, {}, {}), (None, {}, {}), (1, {}, ()), (1, (), {}), (1, {}, None), {}, object(),
    Stubborn(), (Stubborn(), {}, {}), (1, {}, Stubborn()),
] + [(1, wrong, {}) for wrong in NO_QUOTIENTS] + [(1, {}, wrong) for wrong in NO_PRODUCTS]


def some_mixed(level, reach=6):
    """A period and a mixed term that the level bears."""
    period = CHANCE.choice(divisors(level)[1:])
    number = CHANCE.choice([-1, 1]) * CHANCE.choice([1, 2, 24, GREAT])
    return period, (number, some_borne(level, reach), some_product(period, reach))


def sum_of(term):
    return sum(term[1].values())


def turn_of(level, cusp, width):
    a, c = cusp
    return (1 - a * c * width, a * a * width, -c * c * width, 1 + a * c * width)


class TestMixed(TurnedCase):

    def test_is_mixed(self):
        right = [(1, {}, {}), (-1, {1: 1}, {1: 1}), (GREAT, {360: -99, 7: 1}, {2: -99}),
                 (-GREAT, {359: 2, 360: 1}, {2: 1, 1: 2})]
        self.judges(is_mixed, right, NO_MIXED, 5)
        self.assertIs(self.tell(is_mixed, 2, (1, {}, {1: 3})), True)
        self.assertIs(self.tell(is_mixed, 2, (1, {}, {2: 3})), False)
        self.assertIs(self.tell(is_mixed, 60, (1, {}, {30: 3})), True)
        for period in NO_PERIODS:
            for thing in ((1, {}, {}), None):
                self.fails(BadPeriod, is_mixed, period, thing)

    def test_rows(self):
        for _ in range(100):
            period, term = some_mixed(CHANCE.choice(range(2, 61)))
            number, quotient, product = term
            most = CHANCE.choice([0, 1, 40])
            row = series_times(row_of(quotient, most), period_row(period, product, most), most + 1)
            self.assertEqual(self.tell(mixed_row, period, term, most), [number * x for x in row])
            start = fraction(start_of(quotient)) + fraction(period_start(period, product))
            self.assertEqual(fraction(self.tell(mixed_start, period, term)), start)
        self.assertEqual(self.tell(mixed_row, 5, (7, {}, {}), 2), [7, 0, 0])
        self.assertEqual(self.tell(mixed_start, 5, (7, {}, {})), (0, 1))
        self.assertEqual(self.tell(mixed_start, 5, (7, {1: 1}, {1: 1})), (7, 120))
        # Rogers and Ramanujan with eta: a sum with few terms.
        self.assertEqual(mixed_row(5, (1, {5: 1}, {1: 1}), 12), [1, -1, 0, 0, -1, 0, 0, 1, 0, 0, 0, 0, 0])
        self.assertEqual(len(mixed_row(7, (3, {360: 1}, {3: -2}), 3000)), 3001)

    def test_wrong(self):
        wrong = [(BadPeriod, NO_PERIODS), (BadTerm, NO_MIXED)]
        term = (1, {1: 1}, {2: 1})
        self.fails_in_turn(mixed_start, [5, term], wrong)
        self.fails_in_turn(mixed_row, [5, term, 3], wrong + [(BadMost, NO_MOSTS)])
        self.fails_in_turn(mixed_order, [5, term, (1, 0)], wrong + [(BadCusp, NO_CUSPS)])
        matrices = NO_MATRICES + LYING + [(2, 1, 5, 3), (0, -1, 1, 0), (1, 0, 2, 1), (1, 0, -5, 1)]
        self.fails_in_turn(mixed_multiplier, [5, term, (1, 0, 5, 1)], wrong + [(BadMatrix, matrices)])
        self.fails(BadMatrix, mixed_multiplier, 5, (1, {2: 1}, {}), (1, 0, 5, 1))
        self.assertEqual(mixed_multiplier(5, (1, {7: 24}, {}), (1, 0, 35, 1)), (0, 1))
        for thing in STRANGE:
            self.fails(BadTerm, mixed_start, 5, thing)


class TestMultipliers(TurnedCase):

    def test_by_hand(self):
        self.assertEqual(self.tell(mixed_multiplier, 5, (1, {1: 1}, {1: 1}), (1, 1, 0, 1)), (7, 120))
        self.assertEqual(self.tell(mixed_multiplier, 5, (1, {}, {}), (1, 7, 0, 1)), (0, 1))
        self.assertEqual(self.tell(mixed_multiplier, 2, (1, {}, {1: 1}), (1, 1, 0, 1)), (11, 12))

    def test_along_products(self):
        for _ in range(250):
            level = CHANCE.choice([2, 3, 4, 5, 6, 7, 8, 10, 12, 15, 24, 60])
            period, term = some_mixed(level, 99)
            one, other = (upright(some_narrow(level, 3)) for _ in range(2))
            for second in (other, upright(inverted(one)), (1, -2, 0, 1)):
                product = composed(one, second)
                told = fraction(self.tell(mixed_multiplier, period, term, upright(product)))
                expected = fraction(mixed_multiplier(period, term, one)) + fraction(mixed_multiplier(period, term,
                                                                                                     second))
                if upright(product) != product:
                    expected += Fraction(6 * sum_of(term), 24)
                self.assertEqual(told, expected % 1)

    def test_without_products(self):
        for _ in range(100):
            level = CHANCE.choice([2, 3, 5, 6, 12, 60])
            quotient, matrix = some_borne(level), upright(some_narrow(level, 3))
            told = mixed_multiplier(level, (1, quotient, {}), matrix)
            self.assertEqual(fraction(told), Fraction(multiplier(quotient, matrix), 24))

    def test_against_the_term_itself(self):
        tau, checked = 0.23 + 0.4j, 0
        for _ in range(600):
            level = CHANCE.choice([2, 3, 4, 5, 6, 8])
            period, (_, quotient, product) = some_mixed(level, 3)
            matrix = upright(some_narrow(level, 2))
            a, b, c, d = matrix
            at = moved_number(matrix, tau)
            if at.imag < 0.03:
                continue
            checked += 1
            here, there = worth(period, product, tau), worth(period, product, at)
            for m, r in quotient.items():
                here *= eta(m * tau) ** r
                there *= eta(m * at) ** r
            told = fraction(mixed_multiplier(period, (1, quotient, product), matrix))
            expected = cmath.exp(2j * cmath.pi * float(told)) * (c * tau + d) ** (sum(quotient.values()) / 2) * here
            self.assertLess(abs(there - expected), 1e-6 * abs(expected))
        self.assertGreater(checked, 60)

    def test_at_turns_of_mixed_terms(self):
        for level in (2, 3, 4, 5, 6, 7, 8, 9, 10, 12, 16, 24, 60):
            for cusp, width in narrow_cusps(level):
                period, term = some_mixed(level, 20)
                turn = turn_of(level, cusp, width)
                self.assertIs(is_narrow(level, turn), True)
                expected = width * fraction(mixed_order(period, term, cusp))
                if upright(turn) != turn:
                    expected -= Fraction(6 * sum_of(term), 24)
                self.assertEqual(fraction(mixed_multiplier(period, term, upright(turn))), expected % 1)

    def test_at_turns_of_quotients(self):
        for _ in range(200):
            level = CHANCE.choice(range(1, 61))
            quotient, cusp = some_borne(level), CHANCE.choice([some_cusp(), CHANCE.choice(all_cusps(level))])
            turn = turn_at(level, cusp)
            order = fraction(start_of(quotient)) if cusp[1] == 0 else fraction(order_at(quotient, cusp[1]))
            expected = 24 * width_of(level, cusp) * order
            if upright(turn) != turn:
                expected -= 6 * sum(quotient.values())
            self.assertEqual(multiplier(quotient, upright(turn)), expected % 24)


class TestOrders(TurnedCase):

    def test_by_parts(self):
        for _ in range(150):
            period, term = some_mixed(CHANCE.choice(range(2, 61)))
            for cusp in (some_cusp(), (1, 0), (0, 1)):
                start = start_of(term[1]) if cusp[1] == 0 else order_at(term[1], cusp[1])
                expected = fraction(start) + fraction(period_order(period, term[2], cusp))
                self.assertEqual(fraction(self.tell(mixed_order, period, term, cusp)), expected)
            self.assertEqual(mixed_order(period, term, (1, 0)), mixed_start(period, term))

    def test_narrow_matrices_keep_them(self):
        for _ in range(150):
            level = CHANCE.choice([2, 3, 4, 5, 6, 7, 8, 12, 30])
            period, term = some_mixed(level)
            cusp, matrix = some_cusp(), some_narrow(level)
            self.assertEqual(mixed_order(period, term, moved(matrix, cusp)), mixed_order(period, term, cusp))

    def test_all_of_them(self):
        # Over all cusps, widths times orders come to the weight times the number of sets, over 12.
        for _ in range(60):
            level = CHANCE.choice(range(2, 61))
            period, term = some_mixed(level)
            cusps = narrow_cusps(level)
            total = sum(width * fraction(mixed_order(period, term, cusp)) for cusp, width in cusps)
            self.assertEqual(total, Fraction(sum_of(term) * sum(width for _, width in cusps), 24))


class TestSorts(TurnedCase):

    def test_by_hand(self):
        one, other = (1, {}, {1: -11, 2: -1}), (-1, {}, {})
        self.assertIs(self.tell(same_sort, 5, 5, one, other), True)
        self.assertIs(self.tell(same_sort, 5, 5, other, (-11, {1: -6, 5: 6}, {})), True)
        self.assertIs(self.tell(same_sort, 5, 5, other, (1, {1: 1}, {})), False)
        self.assertIs(self.tell(same_sort, 5, 5, other, (1, {}, {1: 1})), False)
        self.assertIs(self.tell(same_sort, 60, 5, one, other), True)

    def near(self, level, period, term):
        """Another one that is of the same sort, or nearly so."""
        number, quotient, product = term
        quotient, product = dict(quotient), dict(product)
        for _ in range(CHANCE.randint(0, 2)):
            if CHANCE.random() < 0.5:
                g, k = CHANCE.randint(1, period // 2), CHANCE.choice([1, 2, 5, 6, 10, 12, 60])
                product[g] = product.get(g, 0) + CHANCE.choice([-1, 1]) * k
                h = CHANCE.randint(1, period // 2)
                product[h] = product.get(h, 0) + CHANCE.choice([-1, 0, 1]) * k
            else:
                d, e, k = CHANCE.choice(divisors(level)), CHANCE.choice(divisors(level)), CHANCE.choice([1, 2, 4, 6, 12,
                                                                                                         24])
                quotient[d] = quotient.get(d, 0) + k
                quotient[e] = quotient.get(e, 0) - k
        return (number, {d: r for d, r in quotient.items() if r}, {g: r for g, r in product.items() if r})

    def test_of_many(self):
        counts = {True: 0, False: 0}
        while min(counts.values()) < 60:
            level = CHANCE.choice([2, 3, 4, 5, 6, 7, 8, 10, 12])
            period, one = some_mixed(level)
            other = self.near(level, period, one)
            if not is_mixed(period, other):
                continue
            told = self.tell(same_sort, level, period, one, other)
            counts[told] += 1
            base = [matrix for matrix, _ in narrow_generators(level)]
            more = [upright(some_narrow(level)) for _ in range(4)]
            if told:
                self.assertEqual(sum_of(one), sum_of(other))
                for matrix in base + more:
                    self.assertEqual(mixed_multiplier(period, one, matrix), mixed_multiplier(period, other, matrix))
            elif sum_of(one) == sum_of(other):
                self.assertTrue(any(mixed_multiplier(period, one, matrix) != mixed_multiplier(period, other, matrix)
                                    for matrix in base))

    def test_all_levels(self):
        # What is of one class on all matrices of a level is of one sort on the narrow ones.
        for level in (2, 12, 59, 60):
            self.assertIs(same_sort(level, level, (1, {1: 24}, {1: 1}), (5, {1: 24}, {1: 1})), True)
            self.assertIs(same_sort(level, level, (1, {1: 24}, {}), (1, {1: 23, level: 1}, {})), False)
        self.assertGreater(len(generators(60)), 20)

    def test_wrong(self):
        term = (1, {1: 1}, {2: 1})
        for wrong in NO_LEVELS:
            self.fails(BadLevel, same_sort, wrong, None, None, None)
        self.fails_in_turn(same_sort, [5, 5, term, term], [(BadLevel, NO_LEVELS), (BadPeriod, NO_PERIODS),
                                                           (BadTerm, NO_MIXED), (BadTerm, NO_MIXED)])
        self.fails(BadPeriod, same_sort, 61, 61, term, term)
        self.fails(BadTerm, same_sort, 61, 5, term, None)
        self.fails(BadLevel, same_sort, 7, 5, term, term)
        self.fails(BadLevel, same_sort, 61, 5, term, term)
        self.fails(BadLevel, same_sort, 5, 5, term, (1, {2: 1}, {}))
        self.fails(BadLevel, same_sort, 5, 5, (1, {2: 1}, {}), term)
        for level in (65, 360):
            self.fails_many(60, same_sort, level, 5, term, term)


if __name__ == "__main__":
    unittest.main()
