"""Points ([22])."""

import random
import unittest
from math import gcd

from etasure.cosets import all_points, index_of, matrix_at, point_for, point_of
from etasure.errors import BadLevel, BadMatrix, BadPair
from etasure.matrices import composed, inverted, is_matrix, upright
from tests.helpers import NO_LEVELS, NO_MATRICES, NO_NUMBERS, Case
from tests.test_matrices import some_matrix

CHANCE = random.Random(22)
SOME_LEVELS = [1, 2, 3, 4, 5, 6, 7, 8, 9, 10, 11, 12, 13, 16, 18, 24, 25, 27, 30, 36]


def slow_point(level, c, d):
    units = [u for u in range(1, level + 1) if gcd(u, level) == 1]
    return min([(u * c % level, u * d % level) for u in units])


def slow_points(level):
    pairs = [(c, d) for c in range(level) for d in range(level) if gcd(gcd(c, d), level) == 1]
    return sorted({slow_point(level, c, d) for c, d in pairs})


class TestIndex(Case):

    def test_by_hand(self):
        known = {1: 1, 2: 3, 3: 4, 4: 6, 5: 6, 6: 12, 8: 12, 9: 12, 10: 18, 11: 12, 12: 24, 36: 72, 60: 144, 360: 864}
        for level, index in known.items():
            self.assertEqual(self.tell(index_of, level), index)

    def test_all_levels(self):
        for level in range(1, 361):
            primes = [p for p in range(2, level + 1) if level % p == 0 and all(p % k for k in range(2, p))]
            above = below = 1
            for p in primes:
                above, below = above * (p + 1), below * p
            self.assertEqual(index_of(level) * below, level * above)

    def test_wrong(self):
        self.fails_in_turn(index_of, [1], [(BadLevel, NO_LEVELS)])


class TestPoints(Case):

    def test_small_levels_against_the_definition(self):
        for level in SOME_LEVELS:
            self.assertEqual(self.tell(all_points, level), slow_points(level))

    def test_first_levels_by_hand(self):
        self.assertEqual(all_points(1), [(0, 0)])
        self.assertEqual(all_points(2), [(0, 1), (1, 0), (1, 1)])
        self.assertEqual(all_points(4), [(0, 1), (1, 0), (1, 1), (1, 2), (1, 3), (2, 1)])

    def test_all_levels(self):
        for level in range(1, 361):
            points = all_points(level)
            self.assertEqual(len(points), index_of(level))
            self.assertTrue(all(one < other for one, other in zip(points, points[1:])))
            self.assertTrue(all(0 <= c < level and 0 <= d < level for c, d in points))

    def test_they_are_their_own_points(self):
        for level in (59, 60, 128, 210, 243, 359, 360):
            for c, d in all_points(level):
                self.assertEqual(slow_point(level, c, d), (c, d))

    def test_point_for_against_the_definition(self):
        for level in SOME_LEVELS + [59, 60, 210, 359, 360]:
            for _ in range(60):
                c, d = CHANCE.randint(-400, 400), CHANCE.randint(-400, 400)
                if gcd(gcd(c, d), level) == 1:
                    self.assertEqual(self.tell(point_for, level, c, d), slow_point(level, c, d))
                else:
                    self.fails(BadPair, point_for, level, c, d)

    def test_point_for_great_numbers(self):
        great = 10 ** 300
        for level in (1, 7, 60, 360):
            for c, d in ((great + 1, great), (-great - 1, great), (0, 7 ** 400), (great, -7)):
                if gcd(gcd(c, d), level) == 1:
                    self.assertEqual(point_for(level, c, d), slow_point(level, c % level, d % level))
                else:
                    self.fails(BadPair, point_for, level, c, d)

    def test_point_for_level_one(self):
        for c, d in ((0, 0), (5, 10), (-3, 7)):
            self.assertEqual(point_for(1, c, d), (0, 0))

    def test_wrong(self):
        self.fails_in_turn(all_points, [1], [(BadLevel, NO_LEVELS)])
        self.fails_in_turn(point_for, [6, 1, 1], [(BadLevel, NO_LEVELS), (BadPair, NO_NUMBERS), (BadPair, NO_NUMBERS)])
        for level, c, d in ((2, 0, 0), (6, 2, 4), (6, 3, 3), (360, 5, 10), (7, 0, 7), (7, 49, -7)):
            self.fails(BadPair, point_for, level, c, d)


class TestPointsOfMatrices(Case):

    def test_point_of(self):
        for level in SOME_LEVELS + [60, 360]:
            for _ in range(30):
                matrix = some_matrix()
                told = self.tell(point_of, level, matrix)
                self.assertEqual(told, slow_point(level, matrix[2], matrix[3]))
                self.assertEqual(point_of(level, tuple([-x for x in matrix])), told)

    def test_one_point_exactly_if_of_the_level(self):
        for level in SOME_LEVELS[:12]:
            matrices = [some_matrix() for _ in range(40)]
            for one in matrices:
                for other in matrices:
                    of_level = composed(one, inverted(other))[2] % level == 0
                    self.assertEqual(point_of(level, one) == point_of(level, other), of_level)

    def test_matrices_move_points_one_to_one(self):
        for level in SOME_LEVELS + [60, 360]:
            points = all_points(level)
            for _ in range(3):
                a, b, c, d = some_matrix()
                images = [point_for(level, x * a + y * c, x * b + y * d) for x, y in points]
                self.assertEqual(sorted(images), points)
                one = matrix_at(level, points[-1])
                self.assertEqual(point_of(level, composed(one, (a, b, c, d))), images[-1])

    def test_matrix_at(self):
        for level in SOME_LEVELS + [59, 60, 210, 359, 360]:
            for point in all_points(level):
                matrix = matrix_at(level, point)
                self.assertTrue(is_matrix(matrix))
                self.assertEqual(upright(matrix), matrix)
                self.assertEqual(slow_point(level, matrix[2], matrix[3]), point)
        for level in (1, 12):
            for point in all_points(level):
                self.tell(matrix_at, level, point)

    def test_wrong(self):
        self.fails_in_turn(point_of, [6, (1, 0, 0, 1)], [(BadLevel, NO_LEVELS), (BadMatrix, NO_MATRICES)])
        wrong = [None, 1, True, [0, 1], (0,), (0, 1, 0), (), (0, True), (False, 1), (0.0, 1), "01", (0, 5), (0, 0),
                 (5, 1), (6, 1), (0, 7), (-6, 1), (2, 2), (4, 1), (3, 4), (1, 6), (1, -1), object()]
        self.fails_in_turn(matrix_at, [6, (0, 1)], [(BadLevel, NO_LEVELS), (BadPair, wrong)])
        self.fails(BadPair, matrix_at, 1, (0, 1))

    def test_all_other_pairs_are_wrong(self):
        for level in (1, 2, 6, 8, 9, 12):
            points = slow_points(level)
            for c in range(-1, level + 1):
                for d in range(-1, level + 1):
                    if (c, d) in points:
                        self.assertTrue(is_matrix(matrix_at(level, (c, d))))
                    else:
                        self.fails(BadPair, matrix_at, level, (c, d))


if __name__ == "__main__":
    unittest.main()
