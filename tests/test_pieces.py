"""Pieces: series of Eisenstein and parts of quotients ([51], [52])."""

import random
import unittest
from fractions import Fraction
from math import gcd, lcm

from etasure.classes import plain_sign
from etasure.cusps import all_cusps
from etasure.eisenstein import eisenstein_row
from etasure.errors import BadMost, BadNumber, BadPiece
from etasure.orders import order_at
from etasure.pieces import (is_piece, piece_least, piece_level, piece_row, piece_sign, piece_start, piece_weight)
from etasure.quotients import row_of, start_of, weight_of
from tests.helpers import NO_MOSTS, NO_NUMBERS, NO_PIECES, Case, divisors, fraction
from tests.test_classes import some_borne

CHANCE = random.Random(51)
FIVE = ("part", 5, ((1, -1), (5, 5)))
SEVEN = ("part", 7, ((1, -1), (7, 7)))
RIGHT = [
    ("two", 2), ("two", 360), ("four", 1), ("four", 360), ("six", 1), ("six", 360), FIVE, ("part", 2, ()),
    ("part", 60, ()), ("part", 2, ((1, 24),)), ("part", 60, ((1, 24),)), ("part", 3, ((1, 2), (11, 2))),
    ("part", 5, ((1, -24),)), ("part", 2, ((1, -99), (25, 3))), ("part", 12, ((360, 24),)),
    ("part", 2, ((1, 6), (9, 2))),
    ("part", 2, ((1, 1), (2, 24), (23, 1))), ("part", 2, ((1, 23), (25, 1))),
]


def primes(n):
    return [p for p in range(2, n + 1) if n % p == 0 and all(p % k for k in range(2, p))]


def slow_level(m, quotient):
    """The least level, by trying all; None if there is none."""
    for level in range(1, 361):
        if all(level % p == 0 for p in primes(m)) and all(level % d == 0 for d in quotient):
            if plain_sign(level, quotient) is not None:
                return level
    return None


def some_part(levels=(*range(1, 11), 12, 15, 16, 18, 20, 24), ms=(2, 3, 4, 5, 6, 7, 9, 10, 12), reach=6):
    """Some part, of a quotient at one of the levels."""
    while True:
        m, quotient = CHANCE.choice(ms), some_borne(CHANCE.choice(levels), reach)
        rest = -sum(d * r for d, r in quotient.items()) % 24
        quotient[1] = quotient.get(1, 0) + (rest if rest < 12 else rest - 24)
        pairs = tuple(sorted((d, r) for d, r in quotient.items() if r))
        if is_piece(("part", m, pairs)):
            return ("part", m, pairs)


def some_piece(levels=(2, 3, 4, 5, 6, 8, 10, 12)):
    kind = CHANCE.choice(["two", "four", "six", "part"])
    if kind == "part":
        return some_part(levels, (2, 3, 4, 5, 6))
    return (kind, CHANCE.choice(levels))


class TestPieces(Case):

    def test_is_piece(self):
        self.judges(is_piece, RIGHT, NO_PIECES)
        self.assertIs(is_piece(thing=FIVE), True)

    def test_parts_have_the_least_level(self):
        counts = {True: 0, False: 0}
        for _ in range(500):
            m = CHANCE.choice([2, 3, 4, 5, 6, 7, 12, 30, 49, 59, 60])
            level = CHANCE.choice([1, 2, 3, 4, 6, 8, 9, 12, 18, 24, 36, 60, 120, 180])
            quotient = some_borne(level, 8)
            if CHANCE.random() < 0.7:
                quotient[1] = quotient.get(1, 0) - sum(d * r for d, r in quotient.items()) % 24
                quotient = {d: r for d, r in quotient.items() if r}
            pairs = tuple(sorted(quotient.items()))
            expected = slow_level(m, quotient)
            piece = ("part", m, pairs)
            counts[expected is not None] += 1
            self.assertIs(is_piece(piece), expected is not None)
            if expected is None:
                self.fails(BadPiece, piece_level, piece)
                continue
            self.assertEqual(self.tell(piece_level, piece), expected)
            self.assertEqual(self.tell(piece_sign, piece), plain_sign(expected, quotient))
            self.assertEqual((self.tell(piece_weight, piece), 1), weight_of(quotient))
            start = fraction(start_of(quotient)) / m
            told = self.tell(piece_start, piece)
            self.assertTrue(isinstance(told, int) and start <= told < start + 1)
        self.assertGreater(min(counts.values()), 60)

    def test_other_kinds(self):
        for kind, weight, first in (("two", 2, 2), ("four", 4, 1), ("six", 6, 1)):
            for d in range(first, 361):
                told = [f((kind, d)) for f in (piece_weight, piece_level, piece_sign, piece_start)]
                self.assertEqual(told, [weight, d, 1, 0])
            self.assertEqual(self.tell(piece_weight, (kind, 360)), weight)

    def test_by_hand(self):
        told = [self.tell(f, FIVE) for f in (piece_weight, piece_level, piece_sign, piece_start)]
        self.assertEqual(told, [2, 5, 5, 1])
        self.assertEqual(self.tell(piece_row, FIVE, 3), [5, 5, 10, 15])
        self.assertEqual(piece_row(SEVEN, 0), [7])
        self.assertEqual(piece_level(("part", 60, ())), 30)
        self.assertEqual(piece_row(("part", 2, ()), 4), [1, 0, 0, 0, 0])
        self.assertEqual(piece_start(("part", 5, ((1, -24),))), 0)
        self.assertEqual(piece_row(("part", 5, ((1, -24),)), 0), [row_of({1: -24}, 1)[1]])
        self.assertEqual(piece_weight(("part", 5, ((1, -24),))), -12)
        self.assertEqual(piece_start(("part", 2, ((1, -72),))), -1)
        self.assertEqual(piece_row(("part", 2, ((1, -72),)), 1), row_of({1: -72}, 3)[1::2])

    def test_rows_by_the_definition(self):
        for d in (1, 2, 3, 7, 59, 60, 360):
            for weight, kind in ((4, "four"), (6, "six")):
                row = self.tell(piece_row, (kind, d), 61)
                series = eisenstein_row(weight, 61)
                self.assertEqual(row, [series[n // d] if n % d == 0 else 0 for n in range(62)])
            if d > 1:
                series = eisenstein_row(2, 61)
                expected = [(d * series[n // d] if n % d == 0 else 0) - series[n] for n in range(62)]
                self.assertEqual(self.tell(piece_row, ("two", d), 61), expected)
        for _ in range(120):
            piece = some_part(ms=(2, 3, 4, 5, 6, 7, 13, 60))
            m, quotient = piece[1], dict(piece[2])
            start, first = fraction(start_of(quotient)), piece_start(piece)
            row = row_of(quotient, m * 14)
            expected = [row[int(m * (first + n) - start)] for n in range(13)]
            self.assertEqual(self.tell(piece_row, piece, 12), expected)

    def test_a_part_of_a_part(self):
        for _ in range(60):
            m, n = CHANCE.choice([(2, 2), (2, 3), (3, 2), (5, 2), (2, 5), (3, 3), (4, 3)])
            piece = some_part(ms=(m,))
            other = ("part", m * n, piece[2])
            if not is_piece(other):
                continue
            first = piece_start(piece)
            row = piece_row(piece, n * 12)
            told = piece_row(other, 9)
            self.assertEqual(told, [row[n * (piece_start(other) + k) - first] for k in range(10)])

    def test_a_part_of_a_quotient_in_a_power(self):
        whole = 0
        for _ in range(150):
            m = CHANCE.choice([2, 3, 5])
            quotient = some_borne(CHANCE.choice([2, 4, 6, 12]), 8)
            pairs = tuple(sorted((m * d, r) for d, r in quotient.items()))
            if is_piece(("part", m, pairs)):
                row = piece_row(("part", m, pairs), 20)
                start = fraction(start_of(quotient))
                if start.denominator == 1:
                    whole += 1
                    self.assertEqual(piece_start(("part", m, pairs)), start)
                    self.assertEqual(row, row_of(quotient, 20))
                else:
                    self.assertEqual(row, [0] * 21)
        self.assertGreater(whole, 1)
        self.assertEqual(piece_row(("part", 2, ((2, 12),)), 30), [0] * 31)
        self.assertEqual(piece_row(("part", 5, ((5, 24), (25, 24))), 9), row_of({1: 24, 5: 24}, 9))

    def test_longest_rows(self):
        self.assertEqual(len(piece_row(("two", 360), 3000)), 3001)
        # Behind the start of the quotient, 1, the first place is 0 for m = 2 and 2 * 1 - 1 for the part at 1.
        piece = ("part", 2, ((1, 24),))
        self.assertEqual(piece_row(piece, 20), row_of({1: 24}, 41)[1::2])
        self.assertEqual(len(piece_row(piece, 2999)), 3000)
        self.fails_many(6000, piece_row, piece, 3000)
        self.assertEqual(len(piece_row(("part", 2, ()), 3000)), 3001)
        for m, first in ((60, 59), (7, 6)):
            piece = ("part", m, ((1, 24),))
            most = (6000 - first) // m
            self.assertEqual(len(piece_row(piece, most)), most + 1)
            self.fails_many(6000, piece_row, piece, most + 1)
            self.fails_many(6000, piece_row, piece, 3000)
        self.assertEqual(len(piece_row(("part", 60, ()), 100)), 101)
        self.fails_many(6000, piece_row, ("part", 60, ()), 101)

    def test_wrong(self):
        for function in (piece_weight, piece_level, piece_sign, piece_start):
            self.fails_in_turn(function, [FIVE], [(BadPiece, NO_PIECES)])
        self.fails_in_turn(piece_row, [FIVE, 3], [(BadPiece, NO_PIECES), (BadMost, NO_MOSTS)])
        self.fails_in_turn(piece_least, [FIVE, 3], [(BadPiece, NO_PIECES), (BadNumber, NO_NUMBERS + [0, -1])])


class TestLeast(Case):

    def test_by_hand(self):
        for piece in (("two", 7), ("four", 1), ("six", 360)):
            for c in (1, 7, 10 ** 100):
                self.assertEqual(self.tell(piece_least, piece, c), (0, 1))
        # At infinity, c = 5: 1 / 5 of the start 1. At 0: g = 1 has (1 / 5) * 1, g = 5 has 5 * 0.
        self.assertEqual(self.tell(piece_least, FIVE, 5), (1, 5))
        self.assertEqual(self.tell(piece_least, FIVE, 1), (0, 1))

    def test_over_the_cusps_that_come_together(self):
        for _ in range(60):
            piece = some_part()
            m, quotient, level = piece[1], dict(piece[2]), piece_level(piece)
            for a, c in CHANCE.sample(all_cusps(level), min(6, len(all_cusps(level)))):
                orders = []
                for b in range(m):
                    g = gcd(a + b * c, m * c)
                    orders.append(Fraction(g * g, m) * fraction(order_at(quotient, m * c // g)))
                self.assertEqual(fraction(self.tell(piece_least, piece, c)), min(orders))

    def test_hangs_on_the_common_divisor_alone(self):
        for _ in range(60):
            piece = some_part()
            level = lcm(piece_level(piece), CHANCE.choice([1, 2, 3, 5]))
            for c in divisors(level):
                other = c * CHANCE.randint(1, 50)
                if gcd(other, level) == c:
                    self.assertEqual(piece_least(piece, c), piece_least(piece, other))
            self.assertEqual(piece_least(piece, 10 ** 200), piece_least(piece, gcd(10 ** 200, level)))

    def test_at_infinity_rows_begin_no_sooner(self):
        for _ in range(60):
            piece = some_part()
            row = piece_row(piece, 20)
            for n, x in enumerate(row):
                if x:
                    self.assertGreaterEqual(piece_start(piece) + n, fraction(piece_least(piece, piece_level(piece))))
                    break


if __name__ == "__main__":
    unittest.main()
