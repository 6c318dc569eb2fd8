"""Matrices and cusps ([20])."""

import random
import unittest
from math import gcd

from etasure.errors import BadCusp, BadMatrix
from etasure.matrices import composed, inverted, is_cusp, is_matrix, moved, upright
from tests.helpers import NO_CUSPS, NO_MATRICES, Case

CHANCE = random.Random(20)
S = (0, -1, 1, 0)
T = (1, 1, 0, 1)
GREAT = 10 ** 300 + 7


def some_matrix(steps=6, reach=5):
    """A matrix, found by adding rows and columns to one another."""
    a, b, c, d = CHANCE.choice([(1, 0, 0, 1), (-1, 0, 0, -1), S])
    for _ in range(CHANCE.randint(0, steps)):
        k = CHANCE.randint(-reach, reach)
        if CHANCE.random() < 0.5:
            b, d = b + k * a, d + k * c
        else:
            a, c = a + k * b, c + k * d
    return (a, b, c, d)


def some_cusp():
    while True:
        a, c = CHANCE.randint(-50, 50), CHANCE.randint(0, 50)
        if gcd(a, c) == 1:
            return (a, c) if c else (1, 0)


class TestJudged(Case):

    def test_is_matrix(self):
        right = [(1, 0, 0, 1), (-1, 0, 0, -1), S, T, (1, GREAT, 0, 1), (GREAT, GREAT - 1, 1, 1), (1, 0, -GREAT, 1)]
        self.judges(is_matrix, right, NO_MATRICES)
        for _ in range(100):
            self.assertIs(is_matrix(thing=some_matrix()), True)

    def test_is_cusp(self):
        right = [(1, 0), (0, 1), (1, 1), (-1, 1), (-3, 7), (GREAT, 10), (1, GREAT), (-GREAT, 2)]
        self.judges(is_cusp, right, NO_CUSPS)
        self.assertIs(is_cusp(thing=(1, 0)), True)

    def test_small_ones_all(self):
        for a in range(-4, 5):
            for b in range(-4, 5):
                self.assertIs(is_cusp((a, b)), b > 0 and gcd(a, b) == 1 or (a, b) == (1, 0))
                for c in range(-4, 5):
                    for d in range(-4, 5):
                        self.assertIs(is_matrix((a, b, c, d)), a * d - b * c == 1)


class TestMatrices(Case):

    def test_by_hand(self):
        self.assertEqual(self.tell(composed, S, T), (0, -1, 1, 1))
        self.assertEqual(self.tell(composed, T, S), (1, -1, 1, 0))
        self.assertEqual(composed(S, S), (-1, 0, 0, -1))
        self.assertEqual(self.tell(inverted, (2, 3, 1, 2)), (2, -3, -1, 2))
        self.assertEqual(inverted(T), (1, -1, 0, 1))

    def test_composed_and_inverted(self):
        for _ in range(300):
            one, other, third = some_matrix(), some_matrix(), some_matrix()
            product = self.tell(composed, one, other)
            a, b, c, d = one
            p, q, r, s = other
            self.assertEqual(product, (a * p + b * r, a * q + b * s, c * p + d * r, c * q + d * s))
            self.assertTrue(is_matrix(product))
            self.assertEqual(composed(product, third), composed(one, composed(other, third)))
            self.assertEqual(composed(one, self.tell(inverted, one)), (1, 0, 0, 1))
            self.assertEqual(composed(inverted(one), one), (1, 0, 0, 1))

    def test_upright(self):
        self.assertEqual(self.tell(upright, (-1, 5, 0, -1)), (1, -5, 0, 1))
        self.assertEqual(self.tell(upright, (1, 5, 0, 1)), (1, 5, 0, 1))
        self.assertEqual(self.tell(upright, (0, 1, -1, 0)), S)
        self.assertEqual(self.tell(upright, S), S)
        self.assertEqual(upright((-1, 0, 0, -1)), (1, 0, 0, 1))
        self.assertEqual(upright((1, 0, -GREAT, 1)), (-1, 0, GREAT, -1))
        for _ in range(300):
            matrix = some_matrix()
            negative = tuple([-x for x in matrix])
            told = upright(matrix)
            self.assertIn(told, (matrix, negative))
            self.assertEqual(upright(negative), told)
            self.assertTrue(told[2] > 0 or told[2] == 0 and told[3] == 1)

    def test_great_numbers(self):
        one = (GREAT, GREAT * GREAT - 1, 1, GREAT)
        self.assertEqual(composed(one, inverted(one)), (1, 0, 0, 1))
        self.assertEqual(composed((1, GREAT, 0, 1), (1, -GREAT, 0, 1)), (1, 0, 0, 1))

    def test_wrong(self):
        self.fails_in_turn(composed, [S, T], [(BadMatrix, NO_MATRICES), (BadMatrix, NO_MATRICES)])
        self.fails_in_turn(inverted, [S], [(BadMatrix, NO_MATRICES)])
        self.fails_in_turn(upright, [S], [(BadMatrix, NO_MATRICES)])


class TestMoved(Case):

    def test_by_hand(self):
        self.assertEqual(self.tell(moved, S, (1, 0)), (0, 1))
        self.assertEqual(self.tell(moved, S, (0, 1)), (1, 0))
        self.assertEqual(self.tell(moved, S, (2, 3)), (-3, 2))
        self.assertEqual(self.tell(moved, T, (1, 0)), (1, 0))
        self.assertEqual(self.tell(moved, T, (-1, 2)), (1, 2))
        self.assertEqual(moved((-1, 0, 0, -1), (1, 0)), (1, 0))
        self.assertEqual(moved((-1, 0, 0, -1), (5, 7)), (5, 7))

    def test_moves_one_after_another(self):
        for _ in range(400):
            one, other, cusp = some_matrix(), some_matrix(), some_cusp()
            told = self.tell(moved, other, cusp)
            self.assertTrue(is_cusp(told))
            a, b, c, d = other
            self.assertEqual(told[0] * (c * cusp[0] + d * cusp[1]), told[1] * (a * cusp[0] + b * cusp[1]))
            self.assertEqual(moved(one, told), moved(composed(one, other), cusp))
            self.assertEqual(moved(inverted(other), told), cusp)
            self.assertEqual(moved(tuple([-x for x in other]), cusp), told)

    def test_wrong(self):
        self.fails_in_turn(moved, [S, (1, 2)], [(BadMatrix, NO_MATRICES), (BadCusp, NO_CUSPS)])


if __name__ == "__main__":
    unittest.main()
