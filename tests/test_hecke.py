"""Straight sums and Hecke's operators on them ([90])."""

import random
import unittest
from fractions import Fraction
from math import gcd, isqrt

from etasure.classes import plain_sign
from etasure.cosets import index_of
from etasure.equal import is_zero
from etasure.errors import BadLevel, BadMost, BadPrime, BadSum, NotStraight
from etasure.hecke import hecke_row, reach_of, sign_of
from etasure.matrices import upright
from etasure.pieces import piece_sign
from etasure.roots import kronecker
from etasure.sums import sum_level
from etasure.terms import term_multiplier, term_twice
from tests.helpers import NO_LEVELS, NO_MOSTS, NO_NUMBERS, NO_SUMS, TurnedCase
from tests.identities_at_hand import MULTIPLIED
from tests.test_cusps import matrix_of_level
from tests.test_relations import some_class
from tests.test_sums import JACOBI, MODULAR, slow_coefficients

CHANCE = random.Random(90)
NO_PRIMES = NO_NUMBERS + [0, 1, 4, 9, 91, 98, 99, 101, -2, -3, 10 ** 40]
DELTA = [(1, {1: 24}, ())]
E4, E6 = (1, {}, (("four", 1),)), (1, {}, (("six", 1),))
CROOKED = [
    (1, []), (1, [(1, {}, ())]), (1, [(1, {1: 1}, ())]), (1, [(1, {1: 2}, ())]), (1, [E4, E6]), (1, [E4, *DELTA]),
    (1, [(1, {1: 24}, ()), (1, {1: 48}, ())]), (2, [(1, {1: 12}, ())]), (24, [(1, {24: 3}, ())]),
    (1, [(1, {1: 16}, ())]), (1, [(1, {1: -24}, ())]), (23, [(1, {1: 1, 23: -1}, ())]),
    (4, [(1, {1: -2, 2: 5, 4: -2}, ())]), (1, [(1, {1: -24}, (("four", 1),))]), (1, [(1, {1: 8}, (("four", 1),))]),
    (5, [(1, {}, ()), (1, {5: 6, 1: -6}, ())]),
]
STRAIGHT = [
    (1, DELTA, 1), (1, [E4], 1), (360, [E4], 1), (11, [(1, {1: 2, 11: 2}, ())], 1), (5, [(1, {1: -1, 5: 5}, ())], 5),
    (23, [(1, {1: 1, 23: 1}, ())], -23), (7, [(3, {1: 3, 7: 3}, ())], -7), (4, JACOBI, 1), (1, MODULAR, 1),
    (4, [(1, {1: -4, 2: 10, 4: -4}, ())], -1), (8, [(1, {1: -2, 2: 3, 4: 3, 8: -2}, ())], -2),
    (4, [(5, {2: 12}, ())], 1), (5, [(1, {}, (("part", 5, ((1, -1), (5, 5))),))], 5),
    (5, [(1, {}, (("part", 5, ((1, -1), (5, 5))), ("part", 5, ((1, 5), (5, -1)))))], 1),
    (20, [(1, {1: -4, 2: 10, 4: -4}, (("part", 5, ((1, -1), (5, 5))),))], -5),
    (3, [(1, {}, (("two", 3),))], 1), (12, [(1, {2: 12}, ()), (-1, {2: 12}, ())], 1),
    (1, [(1, {1: -24}, (("four", 1),) * 4)], 1),
]


def squarefree(n):
    for p in range(2, isqrt(abs(n)) + 1):
        while n % (p * p) == 0:
            n //= p * p
    return n


def weight_of(terms):
    return term_twice(terms[0]) // 2


def some_straight():
    """A level and a straight sum with its sign."""
    while True:
        level, terms = some_class(4)
        sign = sign_of(level, terms)
        if sign is not None:
            return level, terms, sign


def numbers_of(terms, last):
    found = slow_coefficients(terms, Fraction(last))
    return [found.get(Fraction(n), 0) for n in range(last + 1)]


class TestSign(TurnedCase):

    def test_by_hand(self):
        for level, terms, sign in STRAIGHT:
            self.assertEqual(self.tell(sign_of, level, terms), sign)
        for level, terms in CROOKED:
            self.assertIsNone(self.tell(sign_of, level, terms))

    def test_by_the_sentence(self):
        straight = 0
        while straight < 20:
            level, terms = some_class(4)
            level *= CHANCE.choice([1, 1, 2, 3])
            told = self.tell(sign_of, level, terms)
            twice, plain = term_twice(terms[0]), plain_sign(level, terms[0][1])
            if plain is None or twice % 2 or twice < 2:
                self.assertIsNone(told)
                continue
            straight += 1
            for piece in terms[0][2]:
                plain *= piece_sign(piece)
            self.assertEqual(told, squarefree(plain))

    def test_against_the_multipliers(self):
        cases = [(level, terms) for level, terms, _ in STRAIGHT] + [some_straight()[:2] for _ in range(25)]
        met = set()
        for level, terms in cases:
            sign = sign_of(level, terms)
            for _ in range(25):
                matrix = upright(matrix_of_level(level))
                symbol = kronecker(sign, matrix[3])
                self.assertIn(symbol, (1, -1))
                met.add((sign, symbol))
                for term in terms:
                    self.assertEqual(term_multiplier(term, matrix), 0 if symbol == 1 else 12)
        self.assertGreater(len(met), 8)

    def test_wrong(self):
        self.fails_in_turn(sign_of, [1, DELTA], [(BadLevel, NO_LEVELS), (BadSum, NO_SUMS)])
        self.fails(BadLevel, sign_of, 2, JACOBI)


class TestReach(TurnedCase):

    def test_reach(self):
        for level, terms, _ in STRAIGHT:
            expected = weight_of(terms) * index_of(level) // 12
            self.assertEqual(self.tell(reach_of, level, terms), expected)
        self.assertEqual(reach_of(1, DELTA), 1)
        self.assertEqual(reach_of(1, [E4]), 0)
        self.assertEqual(reach_of(360, [E4]), 288)

    def test_wrong(self):
        self.fails_in_turn(reach_of, [1, DELTA], [(BadLevel, NO_LEVELS), (BadSum, NO_SUMS)])
        self.fails(BadLevel, reach_of, 2, JACOBI)
        for level, terms in CROOKED:
            self.fails(NotStraight, reach_of, level, terms)


class TestHeckeRow(TurnedCase):

    def test_by_hand(self):
        self.assertEqual(self.tell(hecke_row, 1, DELTA, 2, 4), [0, -24, 576, -6048, 35328])
        self.assertEqual(self.tell(hecke_row, 1, [E4], 2, 1), [9, 9 * 240])
        self.assertEqual(self.tell(hecke_row, 1, [E4], 97, 0), [1 + 97 ** 3])
        self.assertEqual(self.tell(hecke_row, 23, [(1, {1: 1, 23: 1}, ())], 23, 3), [0, 1, -1, -1])
        self.assertEqual(self.tell(hecke_row, 1, MODULAR, 3, 5), [0] * 6)
        # With the exponent -1 ahead of all that are told.
        self.assertEqual(hecke_row(1, [(1, {1: -24}, (("four", 1),) * 4)], 2, 0), [(1 + 2 ** 3) * 984])

    def check_row(self, level, terms, p, most):
        told = self.tell(hecke_row, level, terms, p, most)
        numbers = numbers_of(terms, p * most)
        chi = kronecker(sign_of(level, terms), p) if gcd(p, level) == 1 else 0
        factor = chi * p ** (weight_of(terms) - 1)
        self.assertEqual(told, [numbers[p * n] + (factor * numbers[n // p] if n % p == 0 else 0)
                                for n in range(most + 1)])

    def test_by_the_sentence(self):
        for level, terms, _ in STRAIGHT:
            for p in (2, 3, 5, 7):
                self.check_row(level, terms, p, 12)
        for _ in range(20):
            level, terms, _ = some_straight()
            self.check_row(level, terms, CHANCE.choice([2, 3, 5, 11]), CHANCE.randint(0, 12))
        self.check_row(1, DELTA, 97, 3)

    def test_product_forms_are_multiplied(self):
        for quotient, level, sign in MULTIPLIED:
            terms = [(1, quotient, ())]
            self.assertEqual(sign_of(level, terms), sign)
            for p in (2, 3, 5, 7, 23):
                numbers = numbers_of(terms, 3 * p)
                self.assertEqual(hecke_row(level, terms, p, 12), [numbers[p] * x for x in numbers_of(terms, 12)])

    def test_what_comes_is_a_form_of_the_level(self):
        # Of the weights 24 and 16 at level 1: the forms E4 ** (3 * i) * {1: 24 * j} and such are all.
        for weight in (12, 16, 18, 20, 24):
            basis = []
            for j in range(weight // 12 + 1):
                rest = weight - 12 * j
                sixes = next((k for k in (0, 1) if (rest - 6 * k) % 4 == 0 and rest >= 6 * k), None)
                if sixes is not None:
                    pieces = (("four", 1),) * ((rest - 6 * sixes) // 4) + (("six", 1),) * sixes
                    basis.append((1, {1: 24 * j} if j else {}, pieces))
            for p in (2, 3, 7):
                terms = [(CHANCE.randint(1, 9), *term[1:]) for term in basis]
                row = hecke_row(1, terms, p, 20)
                rest = list(row)
                spelled = []
                for j, (_, quotient, pieces) in enumerate(basis):
                    x = rest[j]
                    if x:
                        spelled.append((x, quotient, pieces))
                    rest = [y - x * z for y, z in zip(rest, numbers_of([(1, quotient, pieces)], 20))]
                self.assertEqual(rest, [0] * 21)
                self.assertEqual(sign_of(1, spelled), 1)

    def test_by_parts_of_quotients(self):
        # At a level that p divides the operator takes the part.
        for level, quotient, p in ((2, {1: 8, 2: 8}, 2), (5, {1: -1, 5: 5}, 5), (6, {1: 2, 2: 2, 3: 2, 6: 2}, 3),
                                   (4, {1: -8, 2: 20, 4: -8}, 2)):
            terms = [(1, quotient, ())]
            part = [(1, {}, (("part", p, tuple(quotient.items())),))]
            self.assertEqual(hecke_row(level, terms, p, 30), numbers_of(part, 30))
            self.assertEqual(sign_of(level, terms), sign_of(level, part))
        # U2 of {1: 24} and 2 ** 11 of it in q ** 2 are what the operator makes at level 1.
        zero = [(1, {}, (("part", 2, ((1, 24),)),)), (2048, {2: 24}, ()), (24, {1: 24}, ())]
        self.assertTrue(is_zero(2, zero))

    def test_bounds(self):
        self.assertEqual(len(self.tell(hecke_row, 1, DELTA, 2, 1500)), 1501)
        self.fails_many(3000, hecke_row, 1, [E4], 2, 1501)
        self.fails_many(3000, hecke_row, 1, DELTA, 97, 3000)
        self.assertEqual(len(hecke_row(1, DELTA, 97, 30)), 31)
        self.fails_many(3000, hecke_row, 1, DELTA, 97, 31)
        self.fails_many(3000, hecke_row, 1, [(1, {1: -24}, (("four", 1),) * 4)], 2, 1500)
        part = [(1, {}, (("part", 60, ((1, 24),)),))]
        level = sum_level(part)
        self.assertEqual(len(hecke_row(level, part, 7, 14)), 15)
        self.fails_many(6000, hecke_row, level, part, 7, 15)

    def test_later_starts_let_more(self):
        self.assertEqual(79 * 38, 3002)
        self.fails_many(3000, hecke_row, 1, DELTA, 79, 38)
        self.assertEqual(len(hecke_row(1, [(1, {1: 48}, ())], 79, 38)), 39)

    def test_wrong(self):
        self.fails_in_turn(hecke_row, [1, DELTA, 2, 3],
                           [(BadLevel, NO_LEVELS), (BadSum, NO_SUMS), (BadPrime, NO_PRIMES), (BadMost, NO_MOSTS)])
        self.fails(BadLevel, hecke_row, 2, JACOBI, 4, 3001)
        for level, terms in CROOKED:
            self.fails(NotStraight, hecke_row, level, terms, 4, 3001)


if __name__ == "__main__":
    unittest.main()
