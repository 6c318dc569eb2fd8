"""Multipliers ([34])."""

import cmath
import random
import unittest
from math import gcd, lcm

from etasure.errors import BadMatrix, BadQuotient
from etasure.matrices import composed, inverted, upright
from etasure.multipliers import multiplier
from etasure.roots import root_of
from tests.helpers import NO_MATRICES, NO_QUOTIENTS, Case
from tests.test_cusps import matrix_of_level
from tests.test_quotients import FULL, some_quotient, turned
from tests.test_roots import LYING, eta, great_upright, moved_number

CHANCE = random.Random(34)


class TestMultiplier(Case):

    def test_by_hand(self):
        self.assertEqual(self.tell(multiplier, {1: 24}, (0, -1, 1, 0)), 0)
        self.assertEqual(self.tell(multiplier, {1: 1}, (0, -1, 1, 0)), 21)
        self.assertEqual(self.tell(multiplier, {1: -1}, (0, -1, 1, 0)), 3)
        self.assertEqual(self.tell(multiplier, {1: 2, 11: 2}, (1, 1, 0, 1)), 0)
        self.assertEqual(self.tell(multiplier, {1: 2, 2: 1}, (1, 1, 0, 1)), 4)
        self.assertEqual(self.tell(multiplier, {1: 99, 360: -99}, (1, 1, 0, 1)), (99 - 99 * 360) % 24)

    def test_empty(self):
        for matrix in ((0, -1, 1, 0), (1, 0, 0, 1), (1, 5, 0, 1), great_upright()):
            self.assertEqual(self.tell(multiplier, {}, matrix), 0)

    def test_against_the_definition(self):
        for _ in range(200):
            quotient = some_quotient(4, 99, (1, 2, 3, 4, 6, 8, 9, 12, 24, 36, 72, 360))
            level = lcm(*quotient)
            for matrix in (upright(matrix_of_level(level)), great_upright(level), (1, CHANCE.randint(-99, 99), 0, 1)):
                a, b, c, d = matrix
                expected = sum(r * root_of((a, b * m, c // m, d)) for m, r in quotient.items()) % 24
                self.assertEqual(self.tell(multiplier, quotient, matrix), expected)
                self.assertEqual(multiplier(turned(quotient), matrix), expected)

    def test_against_the_quotient_itself(self):
        tau = 0.17 + 0.6j
        checked = 0
        for _ in range(300):
            quotient = some_quotient(3, 4, (1, 2, 3, 4, 6))
            matrix = upright(matrix_of_level(lcm(*quotient)))
            a, b, c, d = matrix
            at = moved_number(matrix, tau)
            if at.imag < 0.03:
                continue
            checked += 1
            here = there = 1
            for m, r in quotient.items():
                here *= eta(m * tau) ** r
                there *= eta(m * at) ** r
            turn = cmath.exp(2j * cmath.pi * multiplier(quotient, matrix) / 24)
            expected = turn * (c * tau + d) ** (sum(quotient.values()) / 2) * here
            self.assertLess(abs(there - expected), 1e-6 * abs(expected))
        self.assertGreater(checked, 60)

    def test_rule_for_products(self):
        for _ in range(600):
            quotient = some_quotient(4, 99, (1, 2, 3, 4, 5, 6, 8, 9, 12, 18, 24, 36, 72, 120))
            level = lcm(*quotient)
            one, other = upright(matrix_of_level(level)), upright(matrix_of_level(level))
            if CHANCE.random() < 0.3:
                one, other = great_upright(level), great_upright(level)
            for second in (other, upright(inverted(one)), (1, 1, 0, 1)):
                product = composed(one, second)
                raised = upright(product)
                more = 0 if raised == product else 6 * sum(quotient.values())
                expected = (multiplier(quotient, one) + multiplier(quotient, second) + more) % 24
                self.assertEqual(multiplier(quotient, raised), expected)

    def test_widest_quotient(self):
        level = lcm(*range(1, 361))
        self.assertEqual(multiplier(FULL, (1, 1, 0, 1)), sum(d * r for d, r in FULL.items()) % 24)
        told = multiplier(FULL, (1, 0, level, 1))
        self.assertEqual(told, sum(r * root_of((1, 0, level // d, 1)) for d, r in FULL.items()) % 24)

    def test_which_matrices_fit(self):
        for quotient in ({4: 1}, {2: 1, 3: -1}, {360: 1}, {1: 1, 6: 2}):
            for c in range(1, 40):
                for d in (1, c + 1, -1, 2 * c - 1):
                    if gcd(c, d) == 1:
                        a = pow(d, -1, c)
                        matrix = (a, (a * d - 1) // c, c, d)
                        if all(c % m == 0 for m in quotient):
                            self.assertIn(multiplier(quotient, matrix), range(24))
                        else:
                            self.fails(BadMatrix, multiplier, quotient, matrix)

    def test_wrong(self):
        wrong = NO_MATRICES + LYING + [(0, -1, 1, 0), (1, 0, 2, 1), (1, 0, 3, 1)]
        self.fails_in_turn(multiplier, [{2: 1, 3: -1}, (1, 0, 6, 1)],
                           [(BadQuotient, NO_QUOTIENTS), (BadMatrix, wrong)])


if __name__ == "__main__":
    unittest.main()
