"""Conjugate matrices of a level ([26])."""

import random
import unittest

from etasure.conjugates import conjugator
from etasure.cosets import all_points, matrix_at, point_for, point_of
from etasure.errors import BadLevel, BadMatrix
from etasure.groups import generators
from etasure.matrices import composed, inverted, is_matrix, upright
from etasure.words import chain_of, matrix_of
from tests.helpers import NO_LEVELS, NO_MATRICES, Case
from tests.test_cusps import matrix_of_level, negative, power
from tests.test_matrices import some_matrix

CHANCE = random.Random(26)
S = (0, -1, 1, 0)
T = (1, 1, 0, 1)
U = (0, -1, 1, 1)


def fits(matrix):
    return sum(abs(k) for k in chain_of(upright(matrix))) <= 600


def led(matrix, by):
    return composed(composed(by, matrix), inverted(by))


def places(level, matrix, commuting):
    """The points that the matrix leaves where they are, each with the least one of its orbit by commuting."""
    a, b, c, d = matrix
    fixed = [(x, y) for x, y in all_points(level) if point_for(level, x * a + y * c, x * b + y * d) == (x, y)]
    orbits = {}
    p, q, r, s = commuting
    for point in fixed:
        orbit = [point]
        while True:
            x, y = orbit[-1]
            following = point_for(level, x * p + y * r, x * q + y * s)
            if following == point:
                break
            orbit.append(following)
        orbits[point] = min(orbit)
    return orbits


# Matrices with one that, but for signs, is a power of all that commute with them.
ROOTED = [
    (T, T), ((1, 2, 0, 1), T), ((1, -3, 0, 1), T), ((1, 12, 0, 1), T), (S, S), (negative(S), S), (U, U),
    (power(U, 2), U), ((2, 1, 1, 1), (2, 1, 1, 1)), (power((2, 1, 1, 1), 2), (2, 1, 1, 1)),
    (power((2, 1, 1, 1), -3), (2, 1, 1, 1)), ((5, 2, 2, 1), (5, 2, 2, 1)), (power((3, 2, 1, 1), 2), (3, 2, 1, 1)),
    (power((3, 2, 1, 1), 4), (3, 2, 1, 1)), (matrix_of((2, 3, 4, 5)), matrix_of((2, 3, 4, 5))),
]


class TestConjugator(Case):

    def check_found(self, level, one, other):
        told = self.tell(conjugator, level, one, other)
        self.assertIsNotNone(told)
        self.assertTrue(is_matrix(told))
        self.assertEqual(told[2] % level, 0)
        self.assertEqual(led(one, told), other)

    def test_conjugates_are_found(self):
        checked = 0
        for level in range(1, 61):
            for _ in range(6):
                one, by = matrix_of_level(level), matrix_of_level(level)
                other = led(one, by)
                if fits(one) and fits(other):
                    checked += 1
                    self.check_found(level, one, other)
                    self.check_found(level, negative(one), negative(other))
        self.assertGreater(checked, 150)

    def test_generators_and_their_powers(self):
        checked = 0
        for level in (1, 2, 3, 5, 7, 10, 11, 13, 21, 25, 37, 60):
            for matrix, order in generators(level):
                for k in (1, 2, -1, -3):
                    one = power(matrix, k)
                    by = matrix_of_level(level)
                    other = led(one, by)
                    if fits(one) and fits(other):
                        checked += 1
                        self.check_found(level, one, other)
                        if order == 0 or power(matrix, order * k) != power(matrix, 0):
                            self.assertIsNone(conjugator(level, one, negative(other)))
        self.assertGreater(checked, 100)

    def test_the_same_matrix(self):
        for level in (1, 4, 12, 60):
            for matrix in ((1, 0, 0, 1), (-1, 0, 0, -1), (1, 5, 0, 1), (1, 0, -level, 1), (-1, 3, 0, -1)):
                self.check_found(level, matrix, matrix)

    def test_not_the_negative_one(self):
        for level in (1, 2, 5, 12, 60):
            for matrix in ((1, 0, 0, 1), (1, 5, 0, 1), (1, 0, level, 1), (1 - level, 1, -level, 1)):
                self.assertIsNone(self.tell(conjugator, level, matrix, negative(matrix)))
                self.assertIsNone(self.tell(conjugator, level, negative(matrix), matrix))
        for matrix in (S, U, power(U, 2)):
            for _ in range(10):
                other = led(matrix, some_matrix())
                if fits(other):
                    self.check_found(1, matrix, other)
                    self.check_found(1, negative(matrix), negative(other))
                    self.assertIsNone(conjugator(1, matrix, negative(other)))
                    self.assertIsNone(conjugator(1, negative(matrix), other))

    def test_inverses(self):
        for level in (1, 2, 3, 12):
            self.assertIsNone(conjugator(level, (1, 1, 0, 1), (1, -1, 0, 1)))
        self.assertIsNone(conjugator(1, S, inverted(S)))
        self.assertIsNone(conjugator(1, U, inverted(U)))
        self.check_found(1, (2, 1, 1, 1), inverted((2, 1, 1, 1)))

    def test_powers_of_t_at_cusps(self):
        # The turns of level 4 at three cusps that no matrix of the level moves to one another.
        turns = [(1, 1, 0, 1), (1, 0, -4, 1), (-1, 1, -4, 3)]
        for one in turns:
            for other in turns:
                if one != other:
                    self.assertIsNone(conjugator(4, one, other))
                    self.assertIsNone(conjugator(4, one, inverted(other)))
        for one in turns:
            for k in (1, 2, -5):
                by = matrix_of_level(4)
                if fits(led(power(one, k), by)):
                    self.check_found(4, power(one, k), led(power(one, k), by))

    def test_none_exactly_if_there_is_none(self):
        """By the points that a matrix leaves where they are, and what commutes with it."""
        found = none = 0
        for level in list(range(1, 31)) + [36, 37, 48, 60]:
            for matrix, commuting in ROOTED:
                orbits = places(level, matrix, commuting)
                points = sorted(orbits)
                for _ in range(min(8, len(points) * len(points))):
                    one_point, other_point = CHANCE.choice(points), CHANCE.choice(points)
                    one = led(matrix, matrix_at(level, one_point))
                    other = led(matrix, composed(matrix_of_level(level), matrix_at(level, other_point)))
                    self.assertEqual((one[2] % level, other[2] % level), (0, 0))
                    if not fits(one) or not fits(other):
                        continue
                    if orbits[one_point] == orbits[other_point]:
                        found += 1
                        self.check_found(level, one, other)
                    else:
                        none += 1
                        self.assertIsNone(conjugator(level, one, other))
                    self.assertIsNone(conjugator(level, one, negative(other)))
        self.assertGreater(found, 500)
        self.assertGreater(none, 100)

    def test_unlike_traces(self):
        for level in (1, 6, 60):
            for _ in range(20):
                one, other = matrix_of_level(level), matrix_of_level(level)
                if fits(one) and fits(other) and one[0] + one[3] != other[0] + other[3]:
                    self.assertIsNone(conjugator(level, one, other))

    def test_chains_at_the_bound(self):
        for level in (1, 2, 60):
            self.check_found(level, (1, 600, 0, 1), (1, 600, 0, 1))
            self.assertIsNone(conjugator(level, (1, 600, 0, 1), (1, 599, 0, 1)))
            self.check_found(level, (-1, 600, 0, -1), (-1, 600, 0, -1))
            for one, other in (((1, 601, 0, 1), T), (T, (1, -601, 0, 1)), (negative((1, 601, 0, 1)), S)):
                if other[2] % level == 0:
                    self.fails_many(600, conjugator, level, one, other)
        long = (-300,) + (2,) * 150
        matrix = matrix_of(long + (0,))
        self.check_found(1, matrix, led(matrix, T))

    def test_wrong(self):
        wrong = NO_MATRICES + [(1, 0, 3, 1), S, (1, 0, -8, 1)]
        self.fails_in_turn(conjugator, [7, (1, 0, 7, 1), (1, 0, 7, 1)],
                           [(BadLevel, NO_LEVELS), (BadMatrix, wrong), (BadMatrix, wrong)])
        self.fails_many(60, conjugator, 61, T, T)
        self.fails_many(60, conjugator, 61, (1, 10 ** 9, 0, 1), T)
        self.fails(BadMatrix, conjugator, 61, T, S)
        self.fails(BadMatrix, conjugator, 61, (1, 0, 1, 1), T)


if __name__ == "__main__":
    unittest.main()
