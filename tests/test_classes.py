"""Classes of quotients ([35], [36])."""

import random
import unittest
from math import gcd, isqrt, prod

from etasure.classes import alike, class_order, parting, plain_sign
from etasure.errors import BadLevel, BadQuotient, NotUnit
from etasure.groups import generators
from etasure.matrices import is_matrix, upright
from etasure.multipliers import multiplier
from etasure.roots import kronecker
from etasure.units import unit_basis
from tests.helpers import NO_LEVELS, NO_QUOTIENTS, TurnedCase, divisors
from tests.test_cusps import matrix_of_level

CHANCE = random.Random(35)


def some_borne(level, reach=9):
    """Some quotient that the level bears."""
    told = {d: CHANCE.randint(-reach, reach) for d in divisors(level) if CHANCE.random() < 0.7}
    return {d: r for d, r in told.items() if r}


def multiplied(one, other, k=1):
    """The quotient one times the k-th power of other, without a look at bounds."""
    told = {d: one.get(d, 0) + k * other.get(d, 0) for d in sorted({*one, *other})}
    return {d: r for d, r in told.items() if r}


def some_related(level):
    """Two quotients of the level of the same weight that are alike, or nearly so."""
    one = some_borne(level)
    other = dict(one)
    for unit in unit_basis(level):
        if CHANCE.random() < 0.5:
            other = multiplied(other, unit, CHANCE.choice([-1, 1]))
    if CHANCE.random() < 0.6:
        steps = divisors(level)
        other = multiplied(other, {CHANCE.choice(steps): 1}, CHANCE.choice([1, 2, 4, 12]))
        other = multiplied(other, {CHANCE.choice(steps): 1}, sum(one.values()) - sum(other.values()))
    return one, other


def conditions_hold(level, one, other):
    less = multiplied(one, other, -1)
    product = prod([d ** abs(r) for d, r in less.items()])
    return (sum(less.values()) == 0 and sum(d * r for d, r in less.items()) % 24 == 0
            and sum(level // d * r for d, r in less.items()) % 24 == 0 and isqrt(product) ** 2 == product)


class TestAlike(TurnedCase):

    def test_by_hand(self):
        self.assertIs(self.tell(alike, 1, {}, {}), True)
        self.assertIs(self.tell(alike, 1, {1: 1}, {1: 1}), True)
        self.assertIs(self.tell(alike, 1, {1: 24}, {}), False)
        self.assertIs(self.tell(alike, 11, {1: 12}, {11: 12}), True)
        self.assertIs(self.tell(alike, 11, {1: 6}, {11: 6}), False)
        self.assertIs(self.tell(alike, 4, {1: -8, 2: 20, 4: -8}, {1: 8, 2: -4}), True)
        self.assertIs(self.tell(alike, 2, {1: 24}, {2: 24}), True)
        self.assertIsNone(self.tell(parting, 2, {1: 24}, {2: 24}))
        self.assertEqual(self.tell(parting, 1, {1: 24}, {}), ("weight",))
        self.assertEqual(self.tell(parting, 360, {1: 1}, {360: -1}), ("weight",))

    def test_conditions_multipliers_and_parting_tell_the_same(self):
        counts = {True: 0, False: 0}
        for _ in range(400):
            level = CHANCE.randint(1, 60)
            one, other = some_related(level)
            if max([1] + [abs(r) for r in (*one.values(), *other.values())]) > 99:
                continue
            told = self.tell(alike, level, one, other)
            counts[told] += 1
            same = all(multiplier(one, matrix) == multiplier(other, matrix) for matrix, _ in generators(level))
            self.assertIs(told, sum(one.values()) == sum(other.values()) and same)
            self.assertIs(told, conditions_hold(level, one, other))
            self.check_parting(level, one, other, told)
        self.assertGreater(min(counts.values()), 60)

    def check_parting(self, level, one, other, is_alike):
        told = self.tell(parting, level, one, other)
        if is_alike:
            self.assertIsNone(told)
        elif sum(one.values()) != sum(other.values()):
            self.assertEqual(told, ("weight",))
        else:
            self.assertTrue(is_matrix(told) and upright(told) == told)
            self.assertEqual(told[2] % level, 0)
            self.assertTrue(-5000 <= told[2] <= 5000 and -5000 <= told[3] <= 5000)
            self.assertNotEqual(multiplier(one, told), multiplier(other, told))

    def test_at_all_levels(self):
        for level in list(range(1, 361)):
            one, other = some_related(level)
            if max([1] + [abs(r) for r in (*one.values(), *other.values())]) <= 99:
                told = alike(level, one, other)
                self.assertIs(told, conditions_hold(level, one, other))
                self.check_parting(level, one, other, told)

    def test_parted_by_the_square_alone(self):
        parted = 0
        for level in (8, 12, 20, 24, 28, 40, 60, 72, 120, 360):
            plain = {}
            for _ in range(3000):
                quotient = some_borne(level, 3)
                sign = plain_sign(level, quotient)
                if sign is not None:
                    plain.setdefault(sum(quotient.values()), []).append((sign, quotient))
            for found in plain.values():
                for (sign, one), (other_sign, other) in zip(found, found[1:]):
                    parted += sign != other_sign
                    self.assertIs(alike(level, one, other), sign == other_sign)
                    self.check_parting(level, one, other, sign == other_sign)
        self.assertGreater(parted, 5)

    def test_widest(self):
        wide = {d: 99 if at % 2 else -99 for at, d in enumerate(divisors(360))}
        other = {d: -r for d, r in wide.items()}
        for one in (wide, other, {}):
            for two in (wide, other, {}):
                told = self.tell(alike, 360, one, two)
                self.assertIs(told, conditions_hold(360, one, two))
                self.check_parting(360, one, two, told)

    def test_wrong(self):
        wrong = (BadQuotient, NO_QUOTIENTS)
        for function in (alike, parting):
            self.fails_in_turn(function, [6, {1: 1, 2: 1}, {3: 2}], [(BadLevel, NO_LEVELS), wrong, wrong])
            for level, one, other in ((6, {4: 1}, {}), (6, {}, {4: 1}), (1, {2: 1}, {2: 1}), (359, {}, {360: 1})):
                self.fails(BadLevel, function, level, one, other)
            self.fails(BadQuotient, function, 6, {4: 1}, {0: 1})


class TestClassOrder(TurnedCase):

    def test_by_hand(self):
        self.assertEqual(self.tell(class_order, 1, {}), 1)
        self.assertEqual(self.tell(class_order, 11, {1: 12, 11: -12}), 1)
        self.assertEqual(self.tell(class_order, 11, {1: 1, 11: -1}), 12)
        self.assertEqual(self.tell(class_order, 2, {1: 1, 2: -1}), 24)
        self.assertEqual(self.tell(class_order, 2, {1: -24, 2: 24}), 1)
        self.assertEqual(self.tell(class_order, 5, {1: 6, 5: -6}), 1)
        self.assertEqual(self.tell(class_order, 7, {1: 4, 7: -4}), 1)

    def test_least_power(self):
        for _ in range(150):
            level = CHANCE.randint(1, 60)
            quotient = multiplied(some_borne(level), {})
            quotient = multiplied(quotient, {CHANCE.choice(divisors(level)): 1}, -sum(quotient.values()))
            if max([1] + [abs(r) for r in quotient.values()]) > 99:
                continue
            k = self.tell(class_order, level, quotient)
            self.assertEqual(24 % k, 0)
            multipliers = [multiplier(quotient, matrix) for matrix, _ in generators(level)]
            for power in range(1, k + 1):
                self.assertIs(all(power * x % 24 == 0 for x in multipliers), power == k)

    def test_wrong(self):
        self.fails_in_turn(class_order, [6, {1: 1, 2: -1}], [(BadLevel, NO_LEVELS), (BadQuotient, NO_QUOTIENTS)])
        self.fails(BadLevel, class_order, 6, {4: 1})
        self.fails(BadLevel, class_order, 6, {4: 1, 1: -1})
        self.fails(NotUnit, class_order, 6, {1: 1})
        self.fails(NotUnit, class_order, 360, {1: 1, 360: -2})


class TestPlainSign(TurnedCase):

    def test_by_hand(self):
        self.assertEqual(self.tell(plain_sign, 1, {1: 24}), 1)
        self.assertEqual(self.tell(plain_sign, 11, {1: 2, 11: 2}), 1)
        self.assertEqual(self.tell(plain_sign, 5, {1: -1, 5: 5}), 5)
        self.assertEqual(self.tell(plain_sign, 7, {1: 7, 7: -1}), -7)
        self.assertEqual(self.tell(plain_sign, 4, {1: -4, 2: 10, 4: -4}), -1)
        self.assertEqual(self.tell(plain_sign, 360, {}), 1)
        self.assertIsNone(self.tell(plain_sign, 2, {1: 1}))
        self.assertIsNone(self.tell(plain_sign, 1, {1: 2}))
        self.assertIsNone(self.tell(plain_sign, 5, {1: 12, 5: 11}))

    def test_against_multipliers(self):
        plain = 0
        for _ in range(1500):
            level = CHANCE.randint(1, 360) if CHANCE.random() < 0.3 else CHANCE.choice([1, 2, 4, 7, 8, 12, 20, 24, 48])
            quotient = some_borne(level, 6)
            sign = self.tell(plain_sign, level, quotient)
            sums = [sum(r * (d if near else level // d) for d, r in quotient.items()) % 24 for near in (0, 1)]
            if sum(quotient.values()) % 2 or any(sums):
                self.assertIsNone(sign)
                if sum(quotient.values()) % 2 == 0:
                    self.assertTrue(multiplier(quotient, (1, 1, 0, 1)) or multiplier(quotient, (1, 0, level, 1)))
                continue
            plain += 1
            self.assertTrue(all(sign % (k * k) for k in range(2, 20)))
            worth = (-1) ** (abs(sum(quotient.values())) // 2) * prod(d ** abs(r) for d, r in quotient.items()) * sign
            self.assertTrue(worth > 0 and isqrt(worth) ** 2 == worth)
            for _ in range(20):
                matrix = upright(matrix_of_level(level))
                self.assertEqual(multiplier(quotient, matrix), 12 if kronecker(sign, matrix[3]) == -1 else 0)
        self.assertGreater(plain, 50)

    def test_wrong(self):
        self.fails_in_turn(plain_sign, [6, {1: 1, 2: -1}], [(BadLevel, NO_LEVELS), (BadQuotient, NO_QUOTIENTS)])
        self.fails(BadLevel, plain_sign, 6, {4: 1})
        self.fails(BadLevel, plain_sign, 6, {360: 24})

    def test_symbols_meet_all_matrices(self):
        # Where d has no common divisor with the level, neither has it with D.
        for level, quotient in ((5, {1: -1, 5: 5}), (15, {1: 1, 3: 1, 5: 1, 15: 1}), (8, {1: 2, 2: 1, 4: 1, 8: 2})):
            sign = plain_sign(level, quotient)
            for d in range(-30, 30):
                if gcd(d, level) == 1:
                    self.assertNotEqual(kronecker(sign, d), 0)


if __name__ == "__main__":
    unittest.main()
