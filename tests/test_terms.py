"""Terms: products of a number, a quotient and pieces ([60])."""

import cmath
import random
import unittest
from fractions import Fraction
from math import lcm

from etasure.errors import BadMatrix, BadMost, BadNumber, BadPair, BadTerm
from etasure.matrices import composed, upright
from etasure.multipliers import multiplier
from etasure.orders import order_at
from etasure.pieces import piece_least, piece_level, piece_row, piece_sign, piece_start, piece_weight
from etasure.quotients import joined, least_level, row_of, start_of
from etasure.roots import kronecker
from etasure.rows import row_times
from etasure.terms import (is_term, term_least, term_level, term_multiplier, term_row, term_start, term_times,
                           term_twice)
from tests.helpers import NO_MATRICES, NO_MOSTS, NO_NUMBERS, NO_TERMS, TurnedCase, divisors, fraction
from tests.test_classes import some_borne
from tests.test_cusps import matrix_of_level
from tests.test_pieces import FIVE, some_part, some_piece
from tests.test_roots import LYING, moved_number

CHANCE = random.Random(60)
GREAT = 10 ** 60
RIGHT = [
    (1, {}, ()), (-1, {}, ()), (GREAT, {1: 1}, ()), (-GREAT, {360: -99}, ()), (3, {2: 1, 1: 2}, (("four", 1),)),
    (1, {}, (("four", 1),) * 6), (1, {}, (("four", 1), ("four", 2), FIVE, ("six", 1), ("two", 2), ("two", 3))),
    (1, {8: 1, 9: 1}, (("two", 5),)), (1, {7: 99, 49: -99}, (("part", 7, ((1, -1), (7, 7))),) * 2),
    (1, {}, (("two", 360), ("two", 360))), (1, {180: 1}, (("two", 8),)),
]


def some_term(levels=(1, 2, 3, 4, 5, 6, 8, 10, 12), pieces=3, reach=6):
    """Some term."""
    while True:
        chosen = tuple(sorted(some_piece() for _ in range(CHANCE.randint(0, pieces))))
        number = CHANCE.choice([-1, 1]) * CHANCE.choice([1, 2, 3, 24, 10 ** 9, GREAT])
        term = (number, some_borne(CHANCE.choice(levels), reach), chosen)
        if is_term(term):
            return term


def level_by_hand(term):
    return lcm(least_level(term[1]), *[piece_level(piece) for piece in term[2]])


def worth(term, tau):
    """The term itself at tau, as a complex number, by its row; None if floats do not tell it well."""
    q = cmath.exp(2j * cmath.pi * tau)
    parts = [x * q ** n for n, x in enumerate(term_row(term, 250))]
    greatest = max([abs(part) for part in parts])
    if greatest > 1e4 * abs(sum(parts)) or max([abs(part) for part in parts[-50:]]) > 1e-9 * greatest:
        return None
    return sum(parts) * cmath.exp(2j * cmath.pi * tau * float(fraction(term_start(term))))


class TestTerms(TurnedCase):

    def test_is_term(self):
        self.judges(is_term, RIGHT, NO_TERMS)
        self.assertIs(is_term(thing=(1, {}, ())), True)

    def test_level_bound(self):
        self.assertIs(is_term((1, {8: 1}, (("two", 45),))), True)
        self.assertIs(is_term((1, {8: 1}, (("two", 49),))), False)
        self.assertIs(is_term((1, {7: 1, 8: 1}, (("four", 9),))), False)
        self.assertEqual(term_level((1, {8: 1}, (("two", 45),))), 360)

    def test_by_hand(self):
        term = (3, {1: -5}, (FIVE,))
        self.assertEqual(self.tell(term_level, term), 5)
        self.assertEqual(self.tell(term_twice, term), -1)
        self.assertEqual(self.tell(term_start, term), (19, 24))
        self.assertEqual(self.tell(term_row, term, 2), [15, 90, 405])
        self.assertEqual(self.tell(term_least, term, 1), (-5, 24))
        self.assertEqual(self.tell(term_least, term, 5), (-1, 120))
        self.assertEqual(self.tell(term_multiplier, term, (1, 1, 0, 1)), 19)
        self.assertEqual(self.tell(term_level, (1, {}, ())), 1)
        self.assertEqual(self.tell(term_twice, (1, {}, ())), 0)
        self.assertEqual(self.tell(term_start, (1, {}, ())), (0, 1))
        self.assertEqual(self.tell(term_row, (7, {}, ()), 0), [7])
        self.assertEqual(self.tell(term_row, (2, {1: 1}, (("four", 1),)), 2), [2, 478, 3838])

    def test_of_many(self):
        for _ in range(120):
            term = some_term()
            number, quotient, pieces = term
            self.assertEqual(self.tell(term_level, term), level_by_hand(term))
            twice = sum(quotient.values()) + 2 * sum(piece_weight(piece) for piece in pieces)
            self.assertEqual(self.tell(term_twice, term), twice)
            start = fraction(start_of(quotient)) + sum(piece_start(piece) for piece in pieces)
            self.assertEqual(fraction(self.tell(term_start, term)), start)
            row = row_of(quotient, 15)
            for piece in pieces:
                row = row_times(row, piece_row(piece, 15))
            self.assertEqual(self.tell(term_row, term, 15), [number * x for x in row])
            for c in (1, 2, 5, 12, CHANCE.randint(1, 10 ** 100)):
                least = fraction(order_at(quotient, c)) + sum(fraction(piece_least(piece, c)) for piece in pieces)
                self.assertEqual(fraction(self.tell(term_least, term, c)), least)

    def test_longest_rows(self):
        row = term_row((GREAT, {1: -1}, (("four", 1), ("six", 7), ("two", 2))), 3000)
        self.assertEqual(len(row), 3001)
        expected = row_of({1: -1}, 3000)
        for piece in (("four", 1), ("six", 7), ("two", 2)):
            expected = row_times(expected, piece_row(piece, 3000))
        self.assertEqual(row, [GREAT * x for x in expected])
        term = (1, {2: 1}, (("part", 60, ()),))
        self.assertEqual(term_row(term, 100), row_of({2: 1}, 100))
        self.fails_many(6000, term_row, term, 101)
        self.fails_many(6000, term_row, (1, {}, (("four", 1), FIVE, ("part", 60, ()))), 3000)

    def test_wrong(self):
        for function in (term_level, term_twice, term_start):
            self.fails_in_turn(function, [RIGHT[4]], [(BadTerm, NO_TERMS)])
        self.fails_in_turn(term_row, [RIGHT[4], 3], [(BadTerm, NO_TERMS), (BadMost, NO_MOSTS)])
        self.fails_in_turn(term_least, [RIGHT[4], 3], [(BadTerm, NO_TERMS), (BadNumber, NO_NUMBERS + [0, -1])])
        wrong = NO_MATRICES + LYING + [(0, -1, 1, 0), (1, 0, 3, 1)]
        self.fails_in_turn(term_multiplier, [RIGHT[4], (1, 0, 2, 1)], [(BadTerm, NO_TERMS), (BadMatrix, wrong)])
        self.fails(BadMatrix, term_multiplier, (1, {}, (("two", 5),)), (1, 0, 4, 1))
        self.fails(BadMatrix, term_multiplier, (1, {1: 1}, (("part", 2, ()),)), (1, 0, 3, 1))


class TestMultiplier(TurnedCase):

    def test_by_the_definition(self):
        for _ in range(150):
            term = some_term()
            matrix = upright(matrix_of_level(term_level(term)))
            odd = [piece for piece in term[2] if kronecker(piece_sign(piece), matrix[3]) == -1]
            expected = (multiplier(term[1], matrix) + 12 * len(odd)) % 24
            self.assertEqual(self.tell(term_multiplier, term, matrix), expected)

    def test_rule_for_products(self):
        for _ in range(300):
            term = some_term()
            level = term_level(term)
            one, other = upright(matrix_of_level(level)), upright(matrix_of_level(level))
            product = composed(one, other)
            more = 0 if upright(product) == product else 6 * term_twice(term)
            expected = (term_multiplier(term, one) + term_multiplier(term, other) + more) % 24
            self.assertEqual(term_multiplier(term, upright(product)), expected)

    def test_against_the_term_itself(self):
        checked = signed = 0
        for term in [(1, {}, (some_part(ms=(2, 3, 5), reach=2),)) for _ in range(99)] + [
                (1, {}, (FIVE,)), (1, {1: -5}, (FIVE,)), (1, {1: 1, 2: 1}, (("two", 2), ("two", 3))),
                (1, {}, (("four", 2), ("six", 1))),
                (1, {1: 2}, (FIVE, FIVE)), (1, {1: 3}, (("part", 7, ((1, -1), (7, 7))),))]:
            level = term_level(term)
            if level > 8:
                continue
            for d in (1, 2, 3, 4, 5, -1, -2, -3):
                matrix = next(((a, (a * d - 1) // level, level, d) for a in range(level) if (a * d - 1) % level == 0),
                              None)
                if matrix is None:
                    continue
                a, b, c, d = matrix
                tau = complex(-d / c, 1 / c)
                at = moved_number(matrix, tau + 0.03)
                here, there = worth(term, tau + 0.03), worth(term, at)
                if here is None or there is None:
                    continue
                turn = cmath.exp(2j * cmath.pi * term_multiplier(term, matrix) / 24)
                expected = turn * (c * (tau + 0.03) + d) ** (term_twice(term) / 2) * here
                self.assertLess(abs(there - expected), 1e-5 * abs(expected), term)
                checked += 1
                signed += term_multiplier(term, matrix) == 12
        self.assertGreater(checked, 60)
        self.assertGreater(signed, 5)


class TestProducts(TurnedCase):

    def test_by_hand(self):
        self.assertEqual(self.tell(term_times, (2, {2: 1, 1: 1}, (("two", 2),)), (-3, {1: -1}, (("four", 1),))),
                         (-6, {2: 1}, (("four", 1), ("two", 2))))
        self.assertEqual(self.tell(term_times, (1, {}, ()), (1, {}, ())), (1, {}, ()))

    def test_rows_and_more(self):
        counts = {True: 0, False: 0}
        for _ in range(200):
            one, other = some_term(pieces=2), some_term(pieces=2)
            if abs(one[0] * other[0]) > GREAT or lcm(term_level(one), term_level(other)) > 360:
                counts[False] += 1
                self.fails(BadPair, term_times, one, other)
                continue
            counts[True] += 1
            told = self.tell(term_times, one, other)
            self.assertTrue(is_term(told))
            self.assertEqual(list(told[1]), sorted(told[1]))
            self.assertEqual(told[1], joined(one[1], other[1]))
            self.assertEqual(told[2], tuple(sorted(one[2] + other[2])))
            self.assertEqual(term_row(told, 12), row_times(term_row(one, 12), term_row(other, 12)))
            self.assertEqual(fraction(term_start(told)), fraction(term_start(one)) + fraction(term_start(other)))
            self.assertEqual(term_twice(told), term_twice(one) + term_twice(other))
            for c in divisors(term_level(told)):
                least = fraction(term_least(one, c)) + fraction(term_least(other, c))
                self.assertEqual(fraction(term_least(told, c)), Fraction(least))
        self.assertGreater(min(counts.values()), 20)

    def test_bounds(self):
        self.assertEqual(term_times((10 ** 30, {1: 50}, ()), (-(10 ** 30), {1: 49}, ())), (-GREAT, {1: 99}, ()))
        self.fails(BadPair, term_times, (10 ** 30 + 1, {}, ()), (10 ** 30, {}, ()))
        self.fails(BadPair, term_times, (1, {1: 50}, ()), (1, {1: 50}, ()))
        self.fails(BadPair, term_times, (1, {1: -50}, ()), (1, {1: -50}, ()))
        self.fails(BadPair, term_times, (1, {19: 1}, ()), (1, {20: 1}, ()))
        self.fails(BadPair, term_times, (1, {}, (("four", 1),) * 4), (1, {}, (("four", 1),) * 3))
        self.assertEqual(len(term_times((1, {}, (("four", 1),) * 3), (1, {}, (("two", 2),) * 3))[2]), 6)
        # What cancels needs no level.
        self.assertEqual(term_times((1, {19: 1}, ()), (1, {19: -1}, ())), (1, {}, ()))

    def test_wrong(self):
        self.fails_in_turn(term_times, [RIGHT[0], RIGHT[4]], [(BadTerm, NO_TERMS), (BadTerm, NO_TERMS)])


if __name__ == "__main__":
    unittest.main()
