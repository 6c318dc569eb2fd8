"""Orders of quotients at cusps ([40], [41])."""

import random
import unittest
from fractions import Fraction
from math import gcd, lcm

from etasure.classes import alike
from etasure.cosets import index_of
from etasure.cusps import all_cusps, width_of
from etasure.errors import BadLevel, BadNumber, BadQuotient
from etasure.matrices import moved
from etasure.orders import all_orders, is_holomorphic, local_orders, order_at
from etasure.units import unit_basis
from tests.helpers import NO_LEVELS, NO_NUMBERS, NO_QUOTIENTS, TurnedCase, divisors, fraction, ratio
from tests.test_classes import some_borne
from tests.test_cusps import matrix_of_level
from tests.test_quotients import some_quotient

CHANCE = random.Random(40)


def slow_order(quotient, c):
    return sum([Fraction(r * gcd(c, d) ** 2, d) for d, r in quotient.items()], Fraction(0)) / 24


class TestOrders(TurnedCase):

    def test_by_hand(self):
        self.assertEqual(self.tell(order_at, {1: 24}, 1), (1, 1))
        self.assertEqual(self.tell(order_at, {1: -1, 5: 5}, 1), (0, 1))
        self.assertEqual(self.tell(order_at, {1: -1, 5: 5}, 5), (1, 1))
        self.assertEqual(self.tell(order_at, {2: 1}, 1), (1, 48))
        self.assertEqual(self.tell(order_at, {}, 7), (0, 1))
        self.assertEqual(self.tell(all_orders, 2, {1: 32, 2: -16}), {1: (1, 1), 2: (0, 1)})
        self.assertEqual(self.tell(all_orders, 4, {1: -2, 2: 5, 4: -2}), {1: (0, 1), 2: (1, 4), 4: (0, 1)})
        self.assertEqual(self.tell(local_orders, 4, {1: -2, 2: 5, 4: -2}), {1: (0, 1), 2: (1, 4), 4: (0, 1)})
        self.assertEqual(self.tell(local_orders, 11, {1: 12, 11: -12}), {1: (5, 1), 11: (-5, 1)})
        self.assertEqual(self.tell(all_orders, 1, {}), {1: (0, 1)})

    def test_against_the_definition(self):
        for _ in range(200):
            quotient = some_quotient(6, 99)
            for c in (1, 2, CHANCE.randint(1, 400), 10 ** 200 * 36, CHANCE.randint(1, 10 ** 300)):
                self.assertEqual(fraction(self.tell(order_at, quotient, c)), slow_order(quotient, c))
        for _ in range(100):
            level = CHANCE.randint(1, 360)
            quotient = some_borne(level, 99)
            told = self.tell(all_orders, level, quotient)
            self.assertEqual(list(told), divisors(level))
            near = self.tell(local_orders, level, quotient)
            self.assertEqual(list(near), divisors(level))
            for c in divisors(level):
                self.assertEqual(told[c], ratio(slow_order(quotient, c)))
                self.assertEqual(near[c], ratio(slow_order(quotient, c) * (level // gcd(c * c, level))))

    def test_sum_of_all_orders(self):
        for level in [1, 2, 12, 36, 49, 120, 144, 359, 360] + [CHANCE.randint(1, 360) for _ in range(60)]:
            quotient = some_borne(level, 99)
            told = sum(width_of(level, cusp) * fraction(order_at(quotient, cusp[1])) for cusp in all_cusps(level))
            self.assertEqual(told, Fraction(sum(quotient.values()) * index_of(level), 24))

    def test_same_at_cusps_that_are_moved_to_one_another(self):
        for _ in range(200):
            level = CHANCE.choice([1, 4, 6, 12, 16, 18, 36, 49, 50, 72, 100])
            quotient = some_borne(level)
            cusp = CHANCE.choice(all_cusps(level))
            other = moved(matrix_of_level(level), cusp)
            if other[1] > 0:
                self.assertEqual(order_at(quotient, cusp[1]), order_at(quotient, other[1]))

    def test_units_have_whole_local_orders(self):
        for level in list(range(1, 80)) + [144, 180, 256, 343, 360]:
            for unit in unit_basis(level):
                self.assertTrue(alike(level, unit, {}))
                self.assertTrue(all(below == 1 for _, below in local_orders(level, unit).values()))

    def test_turned_around(self):
        for _ in range(100):
            level = CHANCE.randint(1, 360)
            quotient = some_borne(level)
            other = local_orders(level, {level // d: r for d, r in quotient.items()})
            here = local_orders(level, quotient)
            for c in divisors(level):
                self.assertEqual(other[level // c], here[c])

    def test_wrong(self):
        self.fails_in_turn(order_at, [{1: 1}, 3], [(BadQuotient, NO_QUOTIENTS), (BadNumber, NO_NUMBERS + [0, -1])])
        for function in (all_orders, local_orders):
            self.fails_in_turn(function, [6, {1: 1, 2: -1}], [(BadLevel, NO_LEVELS), (BadQuotient, NO_QUOTIENTS)])
            self.fails(BadLevel, function, 6, {4: 1})
            self.fails(BadLevel, function, 1, {360: 1})


class TestHolomorphic(TurnedCase):

    def test_by_hand(self):
        for quotient in ({}, {1: 1}, {1: -1, 5: 5}, {1: -2, 2: 5, 4: -2}, {1: 2, 2: -1}, {360: 99}, {1: -1, 2: 2}):
            self.assertIs(self.tell(is_holomorphic, quotient), True)
        for quotient in ({1: -1}, {1: 1, 2: -1}, {1: -1, 2: 1}, {1: -3, 2: 5, 4: -2}, {1: 4, 5: -1, 7: -1}, {360: -1}):
            self.assertIs(self.tell(is_holomorphic, quotient), False)

    def test_against_all_denominators(self):
        counts = {True: 0, False: 0}
        for _ in range(300):
            quotient = some_borne(CHANCE.choice([2, 4, 6, 8, 12, 30]), 3)
            common = lcm(*quotient)
            told = self.tell(is_holomorphic, quotient)
            counts[told] += 1
            self.assertIs(told, all(slow_order(quotient, c) >= 0 for c in range(1, 2 * common + 1)))
        self.assertGreater(min(counts.values()), 30)

    def test_at_great_multiples(self):
        self.assertIs(self.tell(is_holomorphic, {319: 9, 324: 1, 5: 7}), True)
        self.assertIs(self.tell(is_holomorphic, {319: 1, 324: -1, 5: 7}), False)

    def test_wrong(self):
        self.fails_in_turn(is_holomorphic, [{1: 1}], [(BadQuotient, NO_QUOTIENTS)])


if __name__ == "__main__":
    unittest.main()
