"""Which sums of ratios times terms have whole coefficients ([72])."""

import random
import unittest
from fractions import Fraction
from itertools import combinations
from math import gcd, prod

from etasure.errors import BadLevel, BadRow, BadSum, NotOne
from etasure.relations import free_places, sum_rank
from etasure.wholes import gaps, is_whole, whole_rows
from tests.helpers import NO_LEVELS, NO_RATIOS, NO_SUMS, Stubborn, TurnedCase, fraction, ratio
from tests.test_equal import LONG, WIDE, WIDER
from tests.test_relations import THREE, rows_of, some_class
from tests.test_sums import JACOBI, MODULAR
from tests.test_units import determinant

CHANCE = random.Random(72)
FOUR = [(1, {}, (("four", 1),) * 3), (1, {}, (("six", 1),) * 2)]
# No lists of three ratios.
NO_RATIO_LISTS = [
    None, True, 1, [], (), "abc", [(0, 1)] * 2, [(0, 1)] * 4, {0: (0, 1)}, [0, 0, 0], {(0, 1), (1, 1), (1, 2)},
    object(), Stubborn(),
] + [[(0, 1), wrong, (1, 2)] for wrong in NO_RATIOS]


def sums_of(rows, factors):
    """The coefficients of the sum of factor * term."""
    return [sum(x * y for x, y in zip(factors, column)) for column in zip(*rows)]


def minors_divisor(rows, size):
    """The greatest common divisor of all determinants of so many rows and columns, few of the columns."""
    told = 0
    columns = [list(column) for column in dict.fromkeys(zip(*rows)) if any(column)]
    for chosen in combinations(range(len(rows)), size):
        for some in combinations(columns, size):
            told = gcd(told, int(determinant([[column[at] for at in chosen] for column in some])))
    return told


class TestWholes(TurnedCase):

    def test_by_hand(self):
        self.assertEqual(self.tell(gaps, 1, FOUR), [1728])
        told = self.tell(whole_rows, 1, FOUR)
        # Up to sums of whole multiples: E6 ** 2 alone, or E4 ** 3, and a 1728-th of the difference.
        self.assertEqual(abs(determinant([[fraction(x) for x in row] for row in told])), Fraction(1, 1728))
        self.assertIs(self.tell(is_whole, 1, FOUR, [(1, 1728), (-1, 1728)]), True)
        self.assertIs(self.tell(is_whole, 1, FOUR, [(1, 1728), (1, 1728)]), False)
        self.assertIs(self.tell(is_whole, 1, FOUR, [(1, 864), (-1, 864)]), True)
        self.assertIs(self.tell(is_whole, 1, FOUR, [(1, 3456), (-1, 3456)]), False)
        self.assertIs(self.tell(is_whole, 4, JACOBI, [(1, 7), (1, 7), (1, 7)]), True)
        self.assertIs(self.tell(is_whole, 4, THREE[:2], [(1, 16), (-1, 16)]), True)
        self.assertEqual(self.tell(gaps, 4, THREE[:2]), [16])
        self.assertEqual(self.tell(gaps, 4, THREE), [])
        self.assertEqual(self.tell(gaps, 1, [(6, {1: 1}, ())]), [6])
        self.assertIn(self.tell(whole_rows, 1, [(6, {1: 1}, ())]), ([[(1, 6)]], [[(-1, 6)]]))
        self.assertEqual(self.tell(gaps, 1, [(6, {1: 1}, ()), (10, {1: 1}, ())]), [2])
        nothing = (1, {1: 3}, (("part", 2, ((2, 12),)),))
        self.assertEqual(self.tell(whole_rows, 4, [nothing]), [])
        self.assertEqual(self.tell(gaps, 4, [nothing, nothing]), [])
        self.assertIs(self.tell(is_whole, 4, [nothing], [(10 ** 40, 10 ** 50 + 1)]), True)

    def test_whole_lists(self):
        counts = {True: 0, False: 0}
        for _ in range(80):
            level, terms = some_class(5)
            rows = rows_of(level, terms, 20)
            for _ in range(4):
                base = whole_rows(level, terms)
                drawn = [Fraction(CHANCE.randint(-9, 9), CHANCE.choice([1, 2, 3, 4, 8, 24])) for _ in terms]
                if CHANCE.random() < 0.6:
                    drawn = [sum(Fraction(k) * fraction(x) for k, x in zip((3, -2, 1, 5, 7), column))
                             for column in zip(*base)] or [Fraction(0)] * len(terms)
                ratios = [ratio(x) for x in drawn]
                told = self.tell(is_whole, level, terms, ratios)
                counts[told] += 1
                self.assertIs(told, all(x.denominator == 1 for x in map(Fraction, sums_of(rows, drawn))))
        self.assertGreater(min(counts.values()), 40)

    def test_rows_make_up_all(self):
        for _ in range(80):
            level, terms = some_class(5)
            told = self.tell(whole_rows, level, terms)
            free = free_places(level, terms)
            self.assertEqual(len(told), sum_rank(level, terms))
            rows = rows_of(level, terms, 12)
            table = []
            for ratios in told:
                self.assertEqual(len(ratios), len(terms))
                self.assertTrue(all(ratio(fraction(x)) == x for x in ratios))
                self.assertIs(is_whole(level, terms, ratios), True)
                table.append([int(x) for x in sums_of(rows, [fraction(x) for x in ratios])])
            if table and len(free) <= 3:
                # No series between them: the greatest common divisor of the greatest determinants is 1.
                self.assertEqual(minors_divisor(table, len(table)), 1)

    def test_gaps(self):
        for _ in range(60):
            level, terms = some_class(4)
            told = self.tell(gaps, level, terms)
            self.assertTrue(all(n > 1 for n in told))
            self.assertTrue(all(other % one == 0 for one, other in zip(told, told[1:])))
            rows, rank = rows_of(level, terms), sum_rank(level, terms)
            shuffled = list(terms)
            CHANCE.shuffle(shuffled)
            self.assertEqual(gaps(level, shuffled), told)
            self.assertEqual(gaps(level, terms + terms[:1]), told)
            if rank <= 3:
                # Smith: the products of the first ones are the divisors of all determinants of a size.
                full = [1] * (rank - len(told)) + told
                for size in range(1, rank + 1):
                    self.assertEqual(minors_divisor(rows, size), prod(full[:size]))

    def test_forty_terms_and_great_numbers(self):
        terms = [((k + 1) * 10 ** 58, THREE[k % 3][1], ()) for k in range(40)]
        told = gaps(4, terms)
        self.assertEqual(len(told), 2)
        self.assertTrue(all(n % 10 ** 58 == 0 for n in told))
        self.assertEqual(len(whole_rows(4, terms)), 2)
        self.assertIs(is_whole(4, terms, [(1, 10 ** 58)] * 40), True)
        self.assertEqual(gaps(4, [(10 ** 60, THREE[0][1], ()), (10 ** 60 - 1, THREE[1][1], ())]),
                         [16 * 10 ** 60 * (10 ** 60 - 1)])

    def test_errors(self):
        self.fails_in_turn(is_whole, [4, JACOBI, [(1, 1), (0, 1), (1, 2)]],
                           [(BadLevel, NO_LEVELS), (BadSum, NO_SUMS), (BadRow, NO_RATIO_LISTS)])
        self.fails(BadLevel, is_whole, 2, JACOBI, None)
        self.fails(BadRow, is_whole, 4, [], [(1, 1)])
        self.fails(BadRow, is_whole, 311, WIDER, [])
        self.fails(NotOne, is_whole, 4, [], [])
        self.fails(NotOne, is_whole, 4, JACOBI + MODULAR, [(1, 1)] * 6)
        self.fails_many(3000, is_whole, 311, WIDER, [(1, 1)] * 2)
        for function in (whole_rows, gaps):
            self.fails_in_turn(function, [4, JACOBI], [(BadLevel, NO_LEVELS), (BadSum, NO_SUMS)])
            self.fails(BadLevel, function, 2, JACOBI)
            self.fails(NotOne, function, 4, [])
            self.fails(NotOne, function, 4, JACOBI + MODULAR)
            self.fails_many(3000, function, 311, WIDER)
            self.fails_many(6000, function, 360, [LONG])
        self.assertEqual(gaps(311, WIDE[:1]), [2])


if __name__ == "__main__":
    unittest.main()
