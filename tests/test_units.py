"""Quotients with told orders, and units ([42], [44])."""

import random
import unittest
from fractions import Fraction
from math import gcd, lcm, prod

from etasure.classes import alike
from etasure.errors import BadLevel, BadOrders, BadQuotient
from etasure.groups import generators
from etasure.multipliers import multiplier
from etasure.orders import all_orders, local_orders
from etasure.quotients import is_quotient
from etasure.units import in_units, unit_basis, unit_classes, unit_with, with_orders
from tests.helpers import NO_LEVELS, NO_QUOTIENTS, Stubborn, TurnedCase, divisors, fraction, ratio
from tests.test_classes import multiplied, some_borne
from tests.test_lattice import NO_ORDERS

CHANCE = random.Random(42)
LEVELS = [1, 2, 3, 4, 6, 8, 9, 10, 11, 12, 16, 20, 25, 27, 30, 36, 49, 60, 72, 121, 144, 210, 243, 256, 343, 359, 360]
# No dicts from just the divisors of 6 to numbers that come to 0 over all cusps.
NO_WANTED = [
    None, True, 1, [], (), {}, [0] * 4, {1: 0, 2: 0, 3: 0}, {1: (0, 1), 2: (0, 1), 3: (0, 1), 6: (0, 1)}, {1: 0},
    {1: 0, 2: 0, 3: 0, 6: 0, 12: 0}, {True: 0, 2: 0, 3: 0, 6: 0}, {1.0: 0, 2: 0, 3: 0, 6: 0}, {1: 1, 2: 0, 3: 0, 6: 0},
    {1: 1, 2: 1, 3: -1, 6: -2}, {1: 1, 2: True, 3: -1, 6: -1}, {1: 1.0, 2: 0, 3: -1, 6: 0}, {1: "0", 2: 0, 3: 0, 6: 0},
    {1: Stubborn(), 2: 0, 3: 0, 6: 0}, {1: None, 2: 0, 3: 0, 6: 0}, object(), Stubborn(),
]


def many(level, c):
    common = gcd(c, level // c)
    return len([u for u in range(1, common + 1) if gcd(u, common) == 1])


def some_wanted(level, reach=4):
    """Numbers at the divisors that come to 0 over all cusps; there is one cusp alone at 1."""
    wanted = {c: CHANCE.randint(-reach, reach) for c in divisors(level)}
    wanted[1] = -sum(many(level, c) * wanted[c] for c in wanted if c > 1)
    return wanted


def scaled(orders, k):
    return {c: ratio(k * fraction(orders[c])) for c in orders}


def proper_divisors(k):
    return [n for n in range(1, k) if k % n == 0]


class TestWithOrders(TurnedCase):

    def test_by_hand(self):
        self.assertEqual(self.tell(with_orders, 2, {1: (1, 1), 2: (0, 1)}), ({1: 32, 2: -16}, 1))
        self.assertEqual(self.tell(with_orders, 1, {1: (1, 1)}), ({1: 24}, 1))
        self.assertEqual(self.tell(with_orders, 1, {1: (1, 48)}), ({1: 1}, 2))
        self.assertEqual(self.tell(with_orders, 1, {1: (-7, 120)}), ({1: -7}, 5))
        self.assertEqual(self.tell(with_orders, 2, {1: (1, 24), 2: (0, 1)}), ({1: 4, 2: -2}, 3))
        for level in LEVELS:
            self.assertEqual(self.tell(with_orders, level, {c: (0, 1) for c in divisors(level)}), ({}, 1))

    def test_orders_of_quotients_lead_back(self):
        for level in LEVELS:
            for reach in (3, 99):
                quotient = some_borne(level, reach)
                told = self.tell(with_orders, level, all_orders(level, quotient))
                self.assertEqual(told, (dict(sorted(quotient.items())), 1))
                self.assertEqual(list(told[0]), sorted(told[0]))

    def test_least_multiple(self):
        for level in LEVELS:
            for _ in range(6):
                quotient = some_borne(level, 9)
                k = CHANCE.choice([1, 2, 3, 5, 12, 24, 35])
                orders = scaled(all_orders(level, quotient), Fraction(1, k))
                common = gcd(k, *quotient.values())
                found, least = self.tell(with_orders, level, orders)
                self.assertEqual(least, k // common if quotient else 1)
                self.assertEqual(scaled(all_orders(level, found), 1), scaled(orders, least))
        for level in (2, 4, 6, 9, 11):
            for _ in range(20):
                orders = {c: ratio(Fraction(CHANCE.randint(-3, 3), 24 * CHANCE.randint(1, 3))) for c in divisors(level)}
                try:
                    found, k = with_orders(level, orders)
                except ValueError:
                    self.fails_many(99, with_orders, level, orders)
                    continue
                self.assertEqual(all_orders(level, found), scaled(orders, k))
                # Exponents that have a common divisor with k would be those of a smaller one.
                self.assertEqual(gcd(k, *found.values()) if found else k, 1)

    def test_bounds(self):
        self.assertEqual(with_orders(1, {1: (33, 8)}), ({1: 99}, 1))
        self.assertEqual(with_orders(1, {1: (-33, 8)}), ({1: -99}, 1))
        self.fails_many(99, with_orders, 1, {1: (25, 6)})
        self.fails_many(99, with_orders, 1, {1: (-25, 6)})
        self.fails_many(99, with_orders, 2, {1: (4, 1), 2: (0, 1)})
        self.assertEqual(with_orders(1, {1: (33, 56)}), ({1: 99}, 7))
        self.fails_many(99, with_orders, 1, {1: (10 ** 8, 10 ** 9 - 1)})

    def test_wrong(self):
        zeros = {1: (0, 1), 2: (0, 1), 3: (0, 1), 6: (0, 1)}
        self.fails_in_turn(with_orders, [6, zeros], [(BadLevel, NO_LEVELS), (BadOrders, NO_ORDERS)])
        self.fails(BadOrders, with_orders, 12, zeros)


class TestUnits(TurnedCase):

    def test_basis_at_all_levels(self):
        for level in range(1, 361):
            basis = unit_basis(level)
            self.assertEqual(len(basis), len(divisors(level)) - 1)
            for unit in basis:
                self.assertTrue(is_quotient(unit))
                self.assertEqual(list(unit), sorted(unit))
                self.assertTrue(alike(level, unit, {}))

    def test_basis_by_multipliers(self):
        for level in range(1, 61):
            for unit in self.tell(unit_basis, level):
                self.assertEqual(sum(unit.values()), 0)
                self.assertTrue(all(multiplier(unit, matrix) == 0 for matrix, _ in generators(level)))

    def test_by_hand(self):
        self.assertEqual(self.tell(unit_basis, 1), [])
        self.assertIn(self.tell(unit_basis, 11), ([{1: 12, 11: -12}], [{1: -12, 11: 12}]))
        self.assertIn(unit_basis(2), ([{1: 24, 2: -24}], [{1: -24, 2: 24}]))
        self.assertEqual(self.tell(in_units, 1, {}), [])
        self.assertIsNone(self.tell(in_units, 1, {1: 1}))
        self.assertEqual(self.tell(in_units, 11, unit_basis(11)[0]), [1])
        self.assertEqual(self.tell(in_units, 11, {}), [0])
        self.assertIsNone(self.tell(in_units, 11, {1: 6, 11: -6}))

    def test_powers_are_told(self):
        for level in LEVELS:
            basis = unit_basis(level)
            for _ in range(12):
                powers = [CHANCE.randint(-1, 1) for _ in basis]
                quotient = {}
                for unit, k in zip(basis, powers):
                    quotient = multiplied(quotient, unit, k)
                if is_quotient(quotient):
                    self.assertEqual(self.tell(in_units, level, quotient), powers)

    def test_units_and_others(self):
        counts = {True: 0, False: 0}
        for _ in range(400):
            level = CHANCE.choice([2, 3, 4, 6, 8, 9, 12, 16, 18, 24, 36])
            quotient = some_borne(level, 5)
            if CHANCE.random() < 0.7:
                quotient = {d: 12 * r for d, r in quotient.items()}
            quotient = multiplied(quotient, {CHANCE.choice(divisors(level)): 1}, -sum(quotient.values()))
            if not is_quotient(quotient):
                continue
            powers = self.tell(in_units, level, quotient)
            counts[powers is not None] += 1
            self.assertIs(powers is not None, alike(level, quotient, {}))
            if powers is not None:
                product = {}
                for unit, k in zip(unit_basis(level), powers):
                    product = multiplied(product, unit, k)
                self.assertEqual(product, dict(sorted(quotient.items())))
        self.assertGreater(min(counts.values()), 40)

    def test_wrong(self):
        self.fails_in_turn(unit_basis, [6], [(BadLevel, NO_LEVELS)])
        self.fails_in_turn(in_units, [6, {1: 1, 2: -1}], [(BadLevel, NO_LEVELS), (BadQuotient, NO_QUOTIENTS)])
        self.fails(BadLevel, in_units, 6, {4: 1, 1: -1})


class TestUnitWith(TurnedCase):

    def test_by_hand(self):
        self.assertEqual(self.tell(unit_with, 11, {1: 1, 11: -1}), ({1: 12, 11: -12}, 5))
        self.assertEqual(self.tell(unit_with, 11, {1: -5, 11: 5}), ({1: -12, 11: 12}, 1))
        self.assertEqual(self.tell(unit_with, 1, {1: 0}), ({}, 1))
        self.assertEqual(self.tell(unit_with, 4, {1: 1, 2: 0, 4: -1}), ({1: 8, 4: -8}, 1))

    def test_least_multiple_is_a_unit(self):
        told_many = 0
        for level in LEVELS + list(range(10, 50)):
            for _ in range(4):
                wanted = some_wanted(level, CHANCE.choice([1, 2, 5]))
                try:
                    found, k = self.tell(unit_with, level, wanted)
                except ValueError:
                    self.fails_many(99, unit_with, level, wanted)
                    continue
                told_many += 1
                self.assertTrue(alike(level, found, {}))
                self.assertEqual(local_orders(level, found), {c: (k * wanted[c], 1) for c in wanted})
                classes = unit_classes(level)
                self.assertEqual((classes or [1])[-1] % k, 0)
                for least in proper_divisors(k):
                    exponents = {d: Fraction(r * least, k) for d, r in found.items()}
                    if all(r.denominator == 1 for r in exponents.values()):
                        smaller = {d: int(r) for d, r in exponents.items()}
                        self.assertFalse(alike(level, smaller, {}))
        self.assertGreater(told_many, 60)

    def test_orders_of_units_lead_back(self):
        for level in LEVELS:
            for unit in unit_basis(level):
                wanted = {c: order[0] for c, order in local_orders(level, unit).items()}
                self.assertEqual(self.tell(unit_with, level, wanted), (unit, 1))
                common = gcd(*wanted.values())
                if common > 1:
                    part = {c: order // common for c, order in wanted.items()}
                    found, k = unit_with(level, part)
                    self.assertEqual(common % k, 0)
                    self.assertEqual(multiplied({}, found, common // k), unit)

    def test_bounds(self):
        self.fails_many(99, unit_with, 2, {1: 10, 2: -10})
        self.assertEqual(unit_with(2, {1: 4, 2: -4}), ({1: 96, 2: -96}, 1))
        self.fails_many(99, unit_with, 2, {1: 10 ** 9 - 1, 2: 1 - 10 ** 9})
        self.fails_many(99, unit_with, 359, {1: 1000, 359: -1000})

    def test_wrong(self):
        self.fails_in_turn(unit_with, [6, {1: 1, 2: -1, 3: 2, 6: -2}],
                           [(BadLevel, NO_LEVELS), (BadOrders, NO_WANTED)])
        # At 9 there are two cusps with the denominator 3.
        self.fails(BadOrders, unit_with, 9, {1: 1, 3: -1, 9: 0})
        self.assertEqual(unit_with(9, {1: 1, 3: -1, 9: 1})[1], 1)


class TestUnitClasses(TurnedCase):

    def test_by_hand(self):
        self.assertEqual(self.tell(unit_classes, 11), [5])
        for level in (1, 2, 3, 4, 5, 6, 7, 8, 9, 10, 12, 13, 16, 18, 25):
            self.assertEqual(self.tell(unit_classes, level), [])
        self.assertEqual(self.tell(unit_classes, 14), [6])
        self.assertEqual(self.tell(unit_classes, 15), [2, 4])

    def test_prime_levels(self):
        for p in range(2, 360):
            if all(p % k for k in range(2, p)):
                number = Fraction(p - 1, 12).numerator
                self.assertEqual(unit_classes(p), [number] if number > 1 else [])

    def test_each_divides_the_next_one(self):
        for level in range(1, 361):
            told = unit_classes(level)
            self.assertTrue(all(n > 1 for n in told))
            self.assertTrue(all(other % one == 0 for one, other in zip(told, told[1:])))

    def test_order_of_the_group(self):
        # The number of classes is that of the wanted orders by those of units: a determinant.
        for level in LEVELS + [14, 15, 17, 20, 21, 24, 33, 48, 100]:
            steps = divisors(level)[1:]
            table = [[local_orders(level, unit)[c][0] for c in steps] for unit in unit_basis(level)]
            self.assertEqual(prod(unit_classes(level)), abs(determinant(table)))

    def test_last_one_is_met(self):
        for level in (11, 14, 15, 17, 20, 24, 26, 30, 33, 36, 40):
            told = 1
            for at in divisors(level)[1:]:
                wanted = {c: (1 if c == at else 0) for c in divisors(level)}
                wanted[1] = -many(level, at)
                told = lcm(told, times_of(level, wanted))
            self.assertEqual(told, (unit_classes(level) or [1])[-1])

    def test_wrong(self):
        self.fails_in_turn(unit_classes, [6], [(BadLevel, NO_LEVELS)])


def determinant(table):
    """That of a square table of whole numbers, by fractions."""
    rows = [[Fraction(x) for x in row] for row in table]
    told = Fraction(1)
    for at in range(len(rows)):
        chosen = next((k for k in range(at, len(rows)) if rows[k][at]), None)
        if chosen is None:
            return 0
        if chosen != at:
            rows[at], rows[chosen] = rows[chosen], rows[at]
            told = -told
        told *= rows[at][at]
        for k in range(at + 1, len(rows)):
            factor = rows[k][at] / rows[at][at]
            rows[k] = [x - factor * y for x, y in zip(rows[k], rows[at])]
    return told


def times_of(level, wanted):
    """The k of unit_with, by trying; a unit with greater exponents has its orders in those of the basis."""
    steps = divisors(level)[1:]
    table = [[Fraction(local_orders(level, unit)[c][0]) for c in steps] for unit in unit_basis(level)]
    # Solve x * table = wanted by Cramer's rule.
    whole = determinant(table)
    told = 1
    for at in range(len(table)):
        changed = [[wanted[c] for c in steps] if k == at else row for k, row in enumerate(table)]
        told = lcm(told, (determinant(changed) / whole).denominator)
    return told


if __name__ == "__main__":
    unittest.main()
