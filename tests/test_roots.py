"""Roots of unity ([33])."""

import cmath
import random
import unittest
from fractions import Fraction
from math import gcd

from etasure.errors import BadMatrix, BadNumber, BadPair
from etasure.matrices import composed, inverted, upright
from etasure.roots import dedekind, kronecker, root_of, whole_root
from etasure.words import matrix_of
from tests.helpers import NO_MATRICES, NO_NUMBERS, Case
from tests.test_matrices import some_matrix

CHANCE = random.Random(33)
S = (0, -1, 1, 0)
T = (1, 1, 0, 1)
LYING = [(-1, 0, 0, -1), (-1, 5, 0, -1), (0, 1, -1, 0), (1, 0, -2, 1), (1, 0, -(10 ** 30), 1)]
PRIMES = [p for p in range(3, 400) if all(p % k for k in range(2, p))]
GREAT_PRIMES = [10 ** 9 + 7, 2 ** 61 - 1, 2 ** 89 - 1, 2 ** 107 - 1, 10 ** 30 + 57]


def some_great(figures=30):
    return CHANCE.choice([-1, 1]) * CHANCE.randint(10 ** (figures - 1), 10 ** figures)


def some_great_matrix():
    """An upright matrix with numbers of about thirty digits."""
    word = [CHANCE.choice([-1, 1]) * CHANCE.randint(0, 10 ** CHANCE.randint(1, 5)) for _ in range(12)]
    return upright(matrix_of(tuple(word)))


def great_upright(level=1):
    """An upright matrix whose c and d are chosen first, c divisible by the level."""
    while True:
        c, d = abs(some_great()) * level, some_great()
        if gcd(c, d) == 1:
            a = pow(d, -1, c) + CHANCE.randint(-5, 5) * c
            return (a, (a * d - 1) // c, c, d)


def slow_dedekind(d, c):
    def saw(x):
        return Fraction(0) if x.denominator == 1 else x - x.__floor__() - Fraction(1, 2)
    return sum([saw(Fraction(k, c)) * saw(Fraction(d * k, c)) for k in range(1, c + 1)], Fraction(0))


def eta(tau):
    """Eta itself, as a complex number."""
    q = cmath.exp(2j * cmath.pi * tau)
    told = cmath.exp(2j * cmath.pi * tau / 24)
    for n in range(1, 400):
        told *= 1 - q ** n
    return told


def moved_number(matrix, tau):
    a, b, c, d = matrix
    return (a * tau + b) / (c * tau + d)


class TestKronecker(Case):

    def test_by_hand(self):
        self.assertEqual(self.tell(kronecker, 2, 7), 1)
        self.assertEqual(self.tell(kronecker, 3, 7), -1)
        self.assertEqual(self.tell(kronecker, 14, 7), 0)
        self.assertEqual(self.tell(kronecker, 1001, 9907), -1)
        self.assertEqual(self.tell(kronecker, -5, -1), -1)
        self.assertEqual(self.tell(kronecker, 0, -1), 1)
        self.assertEqual(self.tell(kronecker, 0, 1), 1)

    def test_at_two_one_and_zero(self):
        for a in range(-40, 41):
            at_two = 0 if a % 2 == 0 else 1 if a % 8 in (1, 7) else -1
            self.assertEqual(kronecker(a, 2), at_two)
            self.assertEqual(kronecker(a, -1), -1 if a < 0 else 1)
            self.assertEqual(kronecker(a, -2), -at_two if a < 0 else at_two)
            self.assertEqual(kronecker(a, 1), 1)
            self.assertEqual(kronecker(a, 0), 1 if a in (1, -1) else 0)
        for a in (10 ** 30, -(10 ** 30) - 1, 0):
            self.assertEqual(kronecker(a, 0), 0)

    def test_squares_modulo_primes(self):
        for p in PRIMES:
            squares = {x * x % p for x in range(1, p)}
            for a in range(-p, 2 * p):
                expected = 0 if a % p == 0 else 1 if a % p in squares else -1
                self.assertEqual(kronecker(a, p), expected)

    def test_products_of_symbols_of_factors(self):
        for n in range(-120, 121):
            if n == 0:
                continue
            factors = [-1] if n < 0 else []
            left = abs(n)
            for p in range(2, left + 1):
                while left % p == 0:
                    factors.append(p)
                    left //= p
            for a in range(-60, 61):
                expected = 1
                for p in factors:
                    expected *= kronecker(a, p)
                self.assertEqual(kronecker(a, n), expected, (a, n))

    def test_zero_exactly_with_a_common_divisor(self):
        for a in range(-50, 51):
            for n in range(-50, 51):
                told = kronecker(a, n)
                self.assertIn(told, (-1, 0, 1))
                self.assertEqual(told == 0, gcd(a, n) != 1)

    def test_great_primes(self):
        for p in GREAT_PRIMES:
            for _ in range(20):
                a = some_great()
                euler = pow(a, (p - 1) // 2, p)
                self.assertEqual(self.tell(kronecker, a, p), euler if euler < 2 else -1)
                self.assertEqual(kronecker(a, 3 * p), kronecker(a, 3) * kronecker(a, p))
                self.assertEqual(kronecker(a * a, p), 1)

    def test_great_numbers_of_both_signs(self):
        for _ in range(200):
            a, b, m, n = some_great(), some_great(), some_great(), some_great()
            self.assertEqual(kronecker(a * b, n), kronecker(a, n) * kronecker(b, n))
            self.assertEqual(kronecker(a, m * n), kronecker(a, m) * kronecker(a, n))
            self.assertEqual(kronecker(a, -n), kronecker(a, n) * (-1 if a < 0 else 1))
            odd = abs(2 * n + 1)
            self.assertEqual(kronecker(a, odd), kronecker(a % odd, odd))
            self.assertEqual(kronecker(-1, odd), 1 if odd % 4 == 1 else -1)
        self.assertEqual(kronecker(10 ** 600 + 1, 10 ** 600), 1)

    def test_wrong(self):
        self.fails_in_turn(kronecker, [3, 5], [(BadNumber, NO_NUMBERS), (BadNumber, NO_NUMBERS)])


class TestDedekind(Case):

    def test_by_hand(self):
        self.assertEqual(self.tell(dedekind, 1, 1), (0, 1))
        self.assertEqual(self.tell(dedekind, 0, 1), (0, 1))
        self.assertEqual(self.tell(dedekind, 1, 2), (0, 1))
        self.assertEqual(self.tell(dedekind, 1, 3), (1, 18))
        self.assertEqual(self.tell(dedekind, -1, 3), (-1, 18))
        self.assertEqual(self.tell(dedekind, 1, 5), (1, 5))

    def test_against_the_definition(self):
        for c in range(1, 48):
            for d in range(-c - 3, 2 * c + 3):
                if gcd(c, d) == 1:
                    expected = slow_dedekind(d, c)
                    self.assertEqual(self.tell(dedekind, d, c), (expected.numerator, expected.denominator))

    def test_reciprocity(self):
        for figures in (1, 3, 30, 31, 200):
            for _ in range(60):
                c, d = abs(some_great(figures)), abs(some_great(figures))
                if gcd(c, d) == 1:
                    both = Fraction(*dedekind(d, c)) + Fraction(*dedekind(c, d))
                    whole = (Fraction(d, c) + Fraction(c, d) + Fraction(1, c * d)) / 12 - Fraction(1, 4)
                    self.assertEqual(both, whole)

    def test_great_numbers_of_both_signs(self):
        for _ in range(100):
            c, d = abs(some_great()), some_great()
            if gcd(c, d) != 1:
                self.fails(BadPair, dedekind, d, c)
                continue
            told = self.tell(dedekind, d, c)
            self.assertEqual(gcd(*told), 1)
            self.assertGreater(told[1], 0)
            self.assertEqual(dedekind(d + 7 * c, c), told)
            self.assertEqual(dedekind(-d, c), (-told[0], told[1]))
            self.assertEqual(dedekind(pow(d, -1, c), c), told)
        c = 10 ** 30
        self.assertEqual(Fraction(*dedekind(1, c)), Fraction((c - 1) * (c - 2), 12 * c))
        self.assertEqual(Fraction(*dedekind(c - 1, c)), -Fraction((c - 1) * (c - 2), 12 * c))

    def test_wrong(self):
        self.fails_in_turn(dedekind, [3, 5], [(BadPair, NO_NUMBERS), (BadPair, NO_NUMBERS + [0, -5, -1])])
        for d, c in ((2, 4), (0, 2), (5, 5), (-6, 9), (10 ** 30, 10 ** 31), (1, 0), (1, -1), (0, 0)):
            self.fails(BadPair, dedekind, d, c)


class TestRoots(Case):

    def test_by_hand(self):
        self.assertEqual(self.tell(root_of, T), 1)
        self.assertEqual(self.tell(root_of, S), 21)
        self.assertEqual(self.tell(root_of, (1, 0, 0, 1)), 0)
        self.assertEqual(self.tell(root_of, (1, -1, 0, 1)), 23)
        self.assertEqual(self.tell(root_of, (1, 10 ** 30, 0, 1)), 10 ** 30 % 24)
        self.assertEqual(self.tell(whole_root, T), 1)
        self.assertEqual(self.tell(whole_root, S), 0)
        self.assertEqual(self.tell(whole_root, (1, -(10 ** 30), 0, 1)), -(10 ** 30))

    def test_against_eta_itself(self):
        for tau in (0.3 + 0.9j, -0.41 + 0.7j):
            for _ in range(150):
                matrix = upright(some_matrix(4, 2))
                a, b, c, d = matrix
                at = moved_number(matrix, tau)
                if at.imag < 0.02:
                    continue
                expected = cmath.exp(2j * cmath.pi * root_of(matrix) / 24) * (c * tau + d) ** 0.5 * eta(tau)
                self.assertLess(abs(eta(at) - expected), 1e-8 * abs(expected))

    def check_product(self, one, other):
        product = composed(one, other)
        raised = upright(product)
        is_up = raised == product
        self.assertEqual(root_of(raised), (root_of(one) + root_of(other) + (0 if is_up else 6)) % 24)
        s = 0 if 0 in (one[2], other[2], product[2]) else 1 if is_up else -1
        self.assertEqual(whole_root(raised), whole_root(one) + whole_root(other) - 3 * s)

    def check_root(self, matrix):
        a, b, c, d = matrix
        whole = self.tell(whole_root, matrix)
        self.assertIs(type(whole), int)
        root = self.tell(root_of, matrix)
        self.assertIn(root, range(24))
        self.assertEqual(root, (whole if c == 0 else whole - 3) % 24)
        if c == 0:
            self.assertEqual(whole, b)
        else:
            self.assertEqual(Fraction(whole), Fraction(a + d, c) - 12 * Fraction(*dedekind(d, c)))

    def test_rules_for_products(self):
        for _ in range(1500):
            one, other = upright(some_matrix()), upright(some_matrix())
            self.check_product(one, other)
            self.check_product(one, upright(inverted(one)))
            self.check_product(one, T)
            self.check_product(S, one)

    def test_rules_for_great_products(self):
        for _ in range(150):
            one, other = some_great_matrix(), some_great_matrix()
            self.check_product(one, other)
            self.check_product(great_upright(), great_upright())
            self.check_product(great_upright(), one)
            self.check_product(one, upright(inverted(one)))

    def test_both_agree(self):
        for _ in range(600):
            self.check_root(upright(some_matrix()))
        for _ in range(100):
            self.check_root(some_great_matrix())
            self.check_root(great_upright())
            self.check_root(great_upright(8))
        for b in (0, 1, -1, 24, -25, 10 ** 30, -(10 ** 30) - 7):
            self.check_root((1, b, 0, 1))

    def test_walks_along_words(self):
        for _ in range(200):
            word = [CHANCE.randint(-9, 9) for _ in range(CHANCE.randint(1, 8))]
            told = word[0] % 24
            matrix = (1, word[0], 0, 1)
            for k in word[1:]:
                for step in (S, (1, k, 0, 1)):
                    product = composed(matrix, step)
                    told += root_of(step) + (0 if upright(product) == product else 6)
                    matrix = upright(product)
            self.assertEqual(root_of(matrix), told % 24)

    def test_all_residues(self):
        seen = set()
        for c in range(1, 50):
            for d in range(-50, 51):
                if gcd(c, d) == 1:
                    a = pow(d, -1, c)
                    for shift in (0, c, -2 * c):
                        matrix = (a + shift, ((a + shift) * d - 1) // c, c, d)
                        self.check_root(matrix)
                        seen.add(root_of(matrix))
        self.assertEqual(seen, set(range(24)))

    def test_wrong(self):
        for function in (whole_root, root_of):
            self.fails_in_turn(function, [S], [(BadMatrix, NO_MATRICES + LYING)])


if __name__ == "__main__":
    unittest.main()
