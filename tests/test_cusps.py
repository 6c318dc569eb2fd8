"""Cusps of a level ([23])."""

import random
import unittest
from math import gcd

from etasure.cosets import all_points, index_of, matrix_at, point_for, point_of
from etasure.cusps import all_cusps, carried, cusp_of, fixed_cusp, turn_at, width_of
from etasure.errors import BadCusp, BadLevel, BadMatrix
from etasure.matrices import composed, inverted, is_matrix, moved, upright
from tests.helpers import NO_CUSPS, NO_LEVELS, NO_MATRICES, Case
from tests.test_matrices import some_cusp, some_matrix

CHANCE = random.Random(23)
SOME_LEVELS = [1, 2, 3, 4, 5, 6, 8, 9, 11, 12, 16, 18, 24, 25, 27, 30, 36, 49, 60, 61]
INFINITY = (1, 0)


def orbit_by_t(level, point):
    orbit = [point]
    while True:
        c, d = orbit[-1]
        following = point_for(level, c, c + d)
        if following == point:
            return orbit
        orbit.append(following)


def matrix_to(cusp):
    """A matrix that moves infinity to the cusp."""
    a, c = cusp
    if c == 0:
        return (1, 0, 0, 1)
    d = next(d for d in range(c) if (a * d - 1) % c == 0)
    return (a, (a * d - 1) // c, c, d)


def orbit_of_cusp(level, cusp):
    """Which orbit by T belongs to the orbit of the cusp by matrices of the level.

    A matrix h moves infinity to the cusp; those with the same point as h * T ** k are, but for a
    matrix of the level ahead, just the others that move infinity into the orbit of the cusp.
    """
    return min(orbit_by_t(level, point_of(level, matrix_to(cusp))))


def matrix_of_level(level):
    """A matrix of the level, some matrix times the inverse of the one at its point."""
    matrix = some_matrix()
    return composed(matrix, inverted(matrix_at(level, point_of(level, matrix))))


class TestAllCusps(Case):

    def test_by_hand(self):
        self.assertEqual(self.tell(all_cusps, 1), [(1, 1)])
        self.assertEqual(self.tell(all_cusps, 2), [(1, 1), (1, 2)])
        self.assertEqual(self.tell(all_cusps, 4), [(1, 1), (1, 2), (1, 4)])
        self.assertEqual(self.tell(all_cusps, 9), [(1, 1), (1, 3), (2, 3), (1, 9)])
        self.assertEqual(self.tell(all_cusps, 36)[4:8], [(1, 4), (1, 6), (5, 6), (1, 9)])
        # For 18 / 6 the rests are those by 3: the least number of the rest 2 without a divisor of 6 is 5.
        self.assertEqual([cusp for cusp in all_cusps(18) if cusp[1] == 6], [(1, 6), (5, 6)])
        self.assertEqual([cusp for cusp in all_cusps(25) if cusp[1] == 5], [(1, 5), (2, 5), (3, 5), (4, 5)])

    def test_against_the_definition(self):
        for level in range(1, 361):
            expected = []
            for c in range(1, level + 1):
                if level % c == 0:
                    g = gcd(c, level // c)
                    least = {}
                    for a in range(1, g * c + 1):
                        if gcd(a, c) == 1 and a % g not in least:
                            least[a % g] = a
                    expected.extend([(a, c) for a in sorted(least.values())])
            self.assertEqual(all_cusps(level), expected, level)

    def test_orbits_of_points(self):
        for level in range(1, 73):
            cusps = all_cusps(level)
            orbits = [orbit_of_cusp(level, cusp) for cusp in cusps]
            self.assertEqual(len(set(orbits)), len(orbits))
            for cusp, orbit in zip(cusps, orbits):
                self.assertEqual(len(orbit_by_t(level, orbit)), width_of(level, cusp))
            starts = {min(orbit_by_t(level, point)) for point in all_points(level)}
            self.assertEqual(set(orbits), starts)

    def test_orbits_at_the_last_level(self):
        level = 360
        cusps = all_cusps(level)
        orbits = [orbit_by_t(level, point_of(level, matrix_to(cusp))) for cusp in cusps]
        self.assertEqual([len(orbit) for orbit in orbits], [width_of(level, cusp) for cusp in cusps])
        self.assertEqual(sorted(sum(orbits, [])), all_points(level))

    def test_widths_come_to_the_index(self):
        for level in range(1, 361):
            self.assertEqual(sum(width_of(level, cusp) for cusp in all_cusps(level)), index_of(level))

    def test_wrong(self):
        self.fails_in_turn(all_cusps, [1], [(BadLevel, NO_LEVELS)])


class TestWidthOf(Case):

    def test_by_hand(self):
        for level in (1, 7, 60, 360):
            self.assertEqual(self.tell(width_of, level, INFINITY), 1)
            self.assertEqual(self.tell(width_of, level, (0, 1)), level)
            self.assertEqual(self.tell(width_of, level, (1, level)), 1)
        self.assertEqual(width_of(4, (1, 2)), 1)
        self.assertEqual(width_of(8, (1, 2)), 2)
        self.assertEqual(width_of(360, (1, 6)), 10)
        self.assertEqual(width_of(12, (10 ** 300 + 1, 10 ** 300)), 3)

    def test_it_is_the_same_in_an_orbit(self):
        for level in SOME_LEVELS:
            for _ in range(30):
                cusp = some_cusp()
                self.assertEqual(width_of(level, cusp), level // gcd(cusp[1] ** 2, level))
                self.assertEqual(width_of(level, moved(matrix_of_level(level), cusp)), width_of(level, cusp))

    def test_wrong(self):
        self.fails_in_turn(width_of, [6, (1, 2)], [(BadLevel, NO_LEVELS), (BadCusp, NO_CUSPS)])


class TestCuspOf(Case):

    def test_by_hand(self):
        self.assertEqual(self.tell(cusp_of, 1, INFINITY), (1, 1))
        self.assertEqual(self.tell(cusp_of, 12, INFINITY), (1, 12))
        self.assertEqual(self.tell(cusp_of, 12, (0, 1)), (1, 1))
        self.assertEqual(self.tell(cusp_of, 9, (-1, 3)), (2, 3))
        self.assertEqual(self.tell(cusp_of, 9, (1, 6)), (2, 3))

    def test_the_one_of_the_orbit(self):
        for level in SOME_LEVELS + [360]:
            cusps = all_cusps(level)
            orbits = {orbit_of_cusp(level, cusp): cusp for cusp in cusps}
            for _ in range(60):
                cusp = some_cusp()
                self.assertEqual(self.tell(cusp_of, level, cusp), orbits[orbit_of_cusp(level, cusp)])
            for cusp in cusps:
                self.assertEqual(cusp_of(level, cusp), cusp)

    def test_moved_by_the_level(self):
        for level in SOME_LEVELS + [210, 360]:
            for _ in range(40):
                cusp = some_cusp()
                self.assertEqual(cusp_of(level, moved(matrix_of_level(level), cusp)), cusp_of(level, cusp))

    def test_great_numbers(self):
        great = 3 ** 600
        for level in (27, 60, 360):
            for cusp in ((great + 1, great), (-great - 2, great), (great, great * 2 + 1), (1, great)):
                told = cusp_of(level, cusp)
                self.assertIn(told, all_cusps(level))
                self.assertEqual(moved(carried(level, cusp, told), cusp), told)

    def test_wrong(self):
        self.fails_in_turn(cusp_of, [6, (1, 2)], [(BadLevel, NO_LEVELS), (BadCusp, NO_CUSPS)])


class TestCarried(Case):

    def check_carried(self, level, one, other):
        matrix = self.tell(carried, level, one, other)
        if orbit_of_cusp(level, one) != orbit_of_cusp(level, other):
            self.assertIsNone(matrix)
            return
        self.assertTrue(is_matrix(matrix))
        self.assertEqual(matrix[2] % level, 0)
        self.assertEqual(upright(matrix), matrix)
        self.assertEqual(moved(matrix, one), other)

    def test_exactly_if_there_is_one(self):
        for level in SOME_LEVELS + [360]:
            for _ in range(60):
                self.check_carried(level, some_cusp(), some_cusp())

    def test_within_orbits(self):
        for level in SOME_LEVELS + [210, 360]:
            for _ in range(40):
                cusp = some_cusp()
                self.check_carried(level, cusp, moved(matrix_of_level(level), cusp))
                self.check_carried(level, cusp, cusp)
                self.check_carried(level, cusp, cusp_of(level, cusp))

    def test_between_all_cusps(self):
        for level in (1, 4, 9, 12, 24, 36):
            for one in all_cusps(level) + [INFINITY, (0, 1)]:
                for other in all_cusps(level) + [INFINITY, (0, 1)]:
                    self.check_carried(level, one, other)

    def test_infinity(self):
        self.check_carried(1, INFINITY, (0, 1))
        self.check_carried(2, INFINITY, (0, 1))
        self.check_carried(7, INFINITY, INFINITY)
        self.check_carried(7, (1, 7), INFINITY)

    def test_wrong(self):
        wrong = [(BadLevel, NO_LEVELS), (BadCusp, NO_CUSPS), (BadCusp, NO_CUSPS)]
        self.fails_in_turn(carried, [6, (1, 2), (1, 2)], wrong)


def power(matrix, k):
    told = (1, 0, 0, 1)
    for _ in range(abs(k)):
        told = composed(told, matrix if k > 0 else inverted(matrix))
    return told


def negative(matrix):
    return tuple([-x for x in matrix])


class TestTurns(Case):

    def test_by_hand(self):
        self.assertEqual(self.tell(turn_at, 5, INFINITY), (1, 1, 0, 1))
        self.assertEqual(self.tell(turn_at, 5, (0, 1)), (1, 0, -5, 1))
        self.assertEqual(self.tell(turn_at, 4, (1, 2)), (-1, 1, -4, 3))

    def test_they_leave_the_cusp(self):
        for level in SOME_LEVELS + [360]:
            for _ in range(40):
                cusp = some_cusp()
                turn = self.tell(turn_at, level, cusp)
                a, c = cusp
                width = level // gcd(c * c, level)
                self.assertEqual(turn, (1 - a * c * width, a * a * width, -c * c * width, 1 + a * c * width))
                self.assertTrue(is_matrix(turn))
                self.assertEqual(turn[2] % level, 0)
                self.assertEqual(moved(turn, cusp), cusp)

    def test_fixed_by_hand(self):
        self.assertEqual(self.tell(fixed_cusp, 1, (1, 7, 0, 1)), (INFINITY, 7))
        self.assertEqual(self.tell(fixed_cusp, 60, (-1, 7, 0, -1)), (INFINITY, -7))
        self.assertEqual(self.tell(fixed_cusp, 5, (1, 0, 10, 1)), ((0, 1), -2))
        self.assertIsNone(self.tell(fixed_cusp, 1, (0, -1, 1, 0)))
        self.assertIsNone(self.tell(fixed_cusp, 1, (0, -1, 1, 1)))

    def test_fixed_identity(self):
        for level in (1, 60, 61, 360):
            self.assertIsNone(self.tell(fixed_cusp, level, (1, 0, 0, 1)))
            self.assertIsNone(self.tell(fixed_cusp, level, (-1, 0, 0, -1)))

    def test_powers_of_turns(self):
        for level in SOME_LEVELS + [210, 360]:
            for _ in range(12):
                cusp = some_cusp()
                turn = turn_at(level, cusp)
                for k in (1, 2, 5, -1, -2, -5):
                    matrix = power(turn, k)
                    self.assertEqual(self.tell(fixed_cusp, level, matrix), (cusp, k))
                    self.assertEqual(fixed_cusp(level, negative(matrix)), (cusp, k))

    def test_at_infinity_and_zero(self):
        for level in SOME_LEVELS:
            for cusp in (INFINITY, (0, 1), (1, level), (-1, level)):
                for k in (1, -1, 10, -10):
                    matrix = power(turn_at(level, cusp), k)
                    self.assertEqual(fixed_cusp(level, matrix), (cusp, k))
                    self.assertEqual(fixed_cusp(level, negative(matrix)), (cusp, k))

    def test_none_for_all_others(self):
        for level in SOME_LEVELS:
            for _ in range(200):
                matrix = matrix_of_level(level)
                told = fixed_cusp(level, matrix)
                if abs(matrix[0] + matrix[3]) != 2 or matrix in ((1, 0, 0, 1), (-1, 0, 0, -1)):
                    self.assertIsNone(told)
                else:
                    cusp, k = told
                    self.assertNotEqual(k, 0)
                    found = power(turn_at(level, cusp), k)
                    self.assertIn(matrix, (found, negative(found)))

    def test_great_numbers(self):
        great = 7 ** 200
        for level in (1, 7, 49, 360):
            for cusp in ((great + 1, great), (-great, great + 1)):
                a, b, c, d = turn_at(level, cusp)
                self.assertEqual(fixed_cusp(level, (a, b, c, d)), (cusp, 1))
                self.assertEqual(fixed_cusp(level, (-d, b, c, -a)), (cusp, -1))

    def test_wrong(self):
        self.fails_in_turn(turn_at, [6, (1, 2)], [(BadLevel, NO_LEVELS), (BadCusp, NO_CUSPS)])
        wrong = NO_MATRICES + [(1, 0, 1, 1), (1, 0, 3, 1), (0, -1, 1, 0), (1, 0, -8, 1)]
        self.fails_in_turn(fixed_cusp, [6, (1, 1, 0, 1)], [(BadLevel, NO_LEVELS), (BadMatrix, wrong)])


if __name__ == "__main__":
    unittest.main()
