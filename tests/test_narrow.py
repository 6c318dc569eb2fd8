"""Narrow matrices ([104]), and orders of period products over all of their cusps ([103])."""

import random
import unittest
from math import gcd

from etasure.cosets import index_of
from etasure.errors import BadLevel, BadMatrix
from etasure.groups import generators, path_of
from etasure.matrices import composed, inverted, is_cusp, is_matrix, moved, upright
from etasure.narrow import is_narrow, narrow_cusps, narrow_generators, narrow_index, narrow_path
from etasure.periods import period_order
from tests.helpers import NO_LEVELS, NO_MATRICES, Case, divisors, fraction
from tests.test_cusps import matrix_to
from tests.test_groups import SIGNS, chain_sum, power, reduced
from tests.test_matrices import some_cusp, some_matrix
from tests.test_periods import some_product
from tests.test_roots import LYING

CHANCE = random.Random(104)
LEVELS = range(1, 61)
SOME_LEVELS = [1, 2, 3, 4, 5, 6, 7, 8, 9, 10, 12, 13, 16, 18, 20, 25, 30, 36, 60]


def set_of(level, c, d):
    """The set of a pair and its negative one modulo the level."""
    return frozenset([(c % level, d % level), (-c % level, -d % level)])


def all_sets(level):
    return {set_of(level, c, d) for c in range(level) for d in range(level) if gcd(gcd(c, d), level) == 1}


def narrow_by_hand(level, matrix):
    a, _, c, d = matrix
    return c % level == 0 and ((a - 1) % level == (d - 1) % level == 0 or (a + 1) % level == (d + 1) % level == 0)


def some_narrow(level, steps=6):
    """A narrow matrix, as a product of those that are T ** k moved to some place, and of told generators."""
    told = (1, 0, 0, 1)
    base = narrow_generators(level)
    for _ in range(CHANCE.randint(1, steps)):
        if CHANCE.random() < 0.5:
            a, c = some_cusp()
            one = (1 - a * c * level, a * a * level, -c * c * level, 1 + a * c * level)
        else:
            one = CHANCE.choice(base)[0]
        told = composed(told, one if CHANCE.random() < 0.5 else inverted(one))
    return told


def along(base, path):
    told = (1, 0, 0, 1)
    for place, exponent in path:
        told = composed(told, power(base[place][0], exponent))
    return upright(told)


class TestNarrow(Case):

    def test_is_narrow(self):
        self.assertIs(self.tell_matrix(is_narrow, 5, (1, 7, 0, 1)), True)
        self.assertIs(self.tell_matrix(is_narrow, 5, (-1, 7, 0, -1)), True)
        self.assertIs(self.tell_matrix(is_narrow, 5, (2, 1, 5, 3)), False)
        self.assertIs(self.tell_matrix(is_narrow, 5, (4, 3, 5, 4)), True)
        self.assertIs(self.tell_matrix(is_narrow, 60, (1, 0, 30, 1)), False)
        self.assertIs(self.tell_matrix(is_narrow, 60, (59, 58, 60, 59)), True)
        counts = {True: 0, False: 0}
        for _ in range(600):
            level = CHANCE.choice(LEVELS)
            matrix = CHANCE.choice([some_matrix(), some_narrow(level, 2), *[base[0] for base in generators(level)[:4]]])
            expected = narrow_by_hand(level, matrix)
            counts[expected] += 1
            self.assertIs(self.tell_matrix(is_narrow, level, matrix), expected)
            self.assertIs(is_narrow(level, inverted(matrix)), expected)
        self.assertGreater(min(counts.values()), 100)

    def tell_matrix(self, function, level, matrix):
        """What the function tells, by position and by name."""
        told = function(level, matrix)
        self.assertEqual(function(matrix=matrix, level=level), told)
        return told

    def test_index(self):
        for level in LEVELS:
            self.assertEqual(self.tell(narrow_index, level), len(all_sets(level)))
        self.assertEqual([narrow_index(level) for level in (1, 2, 3, 4, 5, 60)], [1, 3, 4, 6, 12, 1152])

    def test_sets_tell_classes(self):
        # Two matrices have the same set exactly if one times the inverse of the other is narrow.
        for _ in range(400):
            level = CHANCE.choice([1, 2, 3, 4, 5, 6, 7, 8])
            one = some_matrix()
            other = composed(some_narrow(level, 2), one) if CHANCE.random() < 0.5 else some_matrix()
            same = set_of(level, *one[2:]) == set_of(level, *other[2:])
            self.assertIs(is_narrow(level, composed(one, inverted(other))), same)

    def test_wrong(self):
        for function in (narrow_index, narrow_cusps, narrow_generators):
            self.fails_in_turn(function, [1], [(BadLevel, NO_LEVELS)])
            for level in (61, 360):
                self.fails_many(60, function, level)
        self.fails_in_turn(is_narrow, [5, (1, 0, 5, 1)], [(BadLevel, NO_LEVELS), (BadMatrix, NO_MATRICES)])
        self.assertIs(is_narrow(5, (-1, 0, -5, -1)), True)
        for level in (61, 360):
            self.fails_many(60, is_narrow, level, (1, 0, 0, 1))
            self.fails(BadMatrix, is_narrow, level, (1, 0, 0, 2))


class TestCusps(Case):

    def orbit(self, level, cusp):
        """The sets to which T leads from that of a matrix that moves infinity to the cusp."""
        _, _, c, d = matrix_to(cusp)
        found = []
        while set_of(level, c, d) not in found:
            found.append(set_of(level, c, d))
            d += c
        return found

    def test_told_ones(self):
        for level in LEVELS:
            told = self.tell(narrow_cusps, level)
            self.assertEqual(told[0], ((1, 0), 1))
            met = []
            for cusp, width in told:
                self.assertTrue(is_cusp(cusp))
                orbit = self.orbit(level, cusp)
                self.assertEqual(len(orbit), width)
                met.extend(orbit)
            # Each set stands in just one orbit: so each cusp moves to just one of those told.
            self.assertEqual(len(met), len(set(met)))
            self.assertEqual(set(met), all_sets(level))
            self.assertEqual(sum(width for _, width in told), narrow_index(level))

    def test_each_cusp_moves_to_one(self):
        for level in SOME_LEVELS:
            told = narrow_cusps(level)
            for _ in range(12):
                cusp = some_cusp()
                orbit = set(self.orbit(level, cusp))
                near = [other for other, _ in told if set(self.orbit(level, other)) & orbit]
                self.assertEqual(len(near), 1)
                # Some matrix of those that move the one to the other is narrow.
                first, second = matrix_to(cusp), matrix_to(near[0])
                found = [composed(composed(second, (1, k, 0, 1)), inverted(first)) for k in range(level + 1)]
                chosen = [matrix for matrix in found if is_narrow(level, matrix)]
                self.assertTrue(chosen)
                self.assertEqual(moved(chosen[0], cusp), near[0])

    def test_told_ones_are_not_moved_to_one_another(self):
        for level in (1, 2, 3, 4, 5, 6, 7, 8, 12):
            told = [cusp for cusp, _ in narrow_cusps(level)]
            for cusp in told:
                for _ in range(10):
                    other = moved(some_narrow(level), cusp)
                    self.assertTrue(other == cusp or other not in told)

    def test_all_orders_come_to_nothing(self):
        for level in (2, 3, 4, 5, 6, 7, 8, 10, 12, 15, 16, 24, 30, 36, 48, 59, 60):
            cusps = narrow_cusps(level)
            for period in divisors(level)[1:]:
                product = some_product(period, 99)
                self.assertEqual(sum(width * fraction(period_order(period, product, cusp)) for cusp, width in cusps), 0)


class TestGenerators(Case):

    def genus(self, level):
        """The genus of the sets, by those that S and S * T leave where they are, and the orbits by T."""
        sets = all_sets(level)
        twos = threes = 0
        for chosen in sets:
            c, d = min(chosen)
            twos += set_of(level, d, -c) == chosen
            threes += set_of(level, d, d - c) == chosen
        twelve = 12 + len(sets) - 3 * twos - 4 * threes - 6 * len(narrow_cusps(level))
        self.assertEqual(twelve % 12, 0)
        return twelve // 12

    def test_told_ones(self):
        for level in LEVELS:
            told = self.tell(narrow_generators, level)
            self.assertIs(type(told), list)
            orders = [order for _, order in told]
            self.assertEqual(sorted(order for order in orders if order), {1: [2, 3], 2: [2], 3: [3]}.get(level, []))
            free = 2 * self.genus(level) + len(narrow_cusps(level)) - 1
            self.assertEqual(orders.count(0), free)
            for matrix, order in told:
                self.assertTrue(is_matrix(matrix))
                self.assertEqual(upright(matrix), matrix)
                self.assertIs(is_narrow(level, matrix), True)
                self.assertNotIn(matrix, SIGNS)
                if order:
                    self.assertIn(power(matrix, order), SIGNS)
                else:
                    self.assertGreaterEqual(abs(matrix[0] + matrix[3]), 2)

    def test_low_levels_are_those_of_all_matrices(self):
        for level in (1, 2, 3, 4, 6):
            self.assertEqual(narrow_index(level), index_of(level))
            self.assertEqual(sorted(order for _, order in narrow_generators(level)),
                             sorted(order for _, order in generators(level)))

    def test_paths_of_matrices(self):
        for level in SOME_LEVELS:
            base = narrow_generators(level)
            checked = 0
            for _ in range(60):
                matrix = upright(some_narrow(level, 4))
                if chain_sum(matrix) > 600:
                    self.fails_many(600, narrow_path, level, matrix)
                    continue
                checked += 1
                told = narrow_path(level, matrix)
                self.assertEqual(narrow_path(matrix=matrix, level=level), told)
                self.assertIs(type(told), tuple)
                self.assertEqual(reduced(told, [order for _, order in base]), told)
                self.assertLessEqual(sum(abs(exponent) for _, exponent in told), 2000)
                self.assertEqual(along(base, told), matrix)
            self.assertGreater(checked, 3)

    def test_each_path_is_found_again(self):
        for level in SOME_LEVELS:
            base = narrow_generators(level)
            orders = [order for _, order in base]
            for _ in range(40):
                steps = []
                for _ in range(CHANCE.randint(0, 6)):
                    place = CHANCE.randrange(len(base))
                    steps.append((place, CHANCE.choice([-1, 1, 2]) if orders[place] == 0 else CHANCE.randint(1, 2)))
                path = reduced(steps, orders)
                matrix = along(base, path)
                if chain_sum(matrix) <= 600:
                    self.assertEqual(narrow_path(level, matrix), path)

    def test_edges(self):
        for level in SOME_LEVELS:
            self.assertEqual(narrow_path(level, (1, 0, 0, 1)), ())
            for k in (600, -600, 1):
                told = narrow_path(level, (1, k, 0, 1))
                self.assertEqual(along(narrow_generators(level), told), (1, k, 0, 1))
            self.fails_many(600, narrow_path, level, (1, 601, 0, 1))
            self.fails_many(600, narrow_path, level, (1, -601, 0, 1))
        for level in (4, 60):
            for matrix, order in narrow_generators(level):
                self.assertEqual(order, 0)
                self.assertEqual(len(narrow_path(level, matrix)), 1)
        self.assertEqual([path_of(level, (1, 1, 0, 1)) != () for level in (1, 2, 3)], [True] * 3)

    def test_wrong(self):
        wrong = NO_MATRICES + LYING + [(2, 1, 5, 3), (0, -1, 1, 0), (3, 1, 5, 2), (1, 0, -5, 1)]
        self.fails_in_turn(narrow_path, [5, (1, 0, 5, 1)], [(BadLevel, NO_LEVELS), (BadMatrix, wrong)])
        self.fails_many(60, narrow_path, 61, (1, 0, 0, 1))
        self.fails_many(60, narrow_path, 360, (1, 10 ** 9, 0, 1))
        self.fails(BadMatrix, narrow_path, 360, (1, 0, 180, 1))
        self.fails(BadMatrix, narrow_path, 61, (-1, 0, 0, -1))


if __name__ == "__main__":
    unittest.main()
