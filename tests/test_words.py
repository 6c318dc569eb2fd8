"""Words and chains ([21])."""

import random
import unittest
from math import gcd

from etasure.errors import BadMatrix, BadWord
from etasure.matrices import composed, upright
from etasure.words import chain_of, matrix_of, word_of
from tests.helpers import NO_MATRICES, Case
from tests.test_matrices import some_matrix

CHANCE = random.Random(21)
S = (0, -1, 1, 0)
NO_WORDS = [None, True, 1, "1", [], [1], [1, 2], (), (True,), (1, False), (1.0,), (1, None), ((1,),), ("1",), {1: 1},
            (0,) * 6001, (5,) * 7000, range(3), object()]


def slow_matrix(word):
    matrix = (1, word[0], 0, 1)
    for k in word[1:]:
        matrix = composed(composed(matrix, S), (1, k, 0, 1))
    return matrix


def digits(c):
    return len(bin(abs(c))) - 2 if c else 0


def great_matrix(count):
    """A matrix with numbers of hundreds of digits."""
    return matrix_of(tuple([CHANCE.choice([-1, 1]) * CHANCE.randint(1, 10 ** 9) for _ in range(count)]))


class TestMatrixOf(Case):

    def test_by_hand(self):
        self.assertEqual(self.tell(matrix_of, (5,)), (1, 5, 0, 1))
        self.assertEqual(self.tell(matrix_of, (0, 0)), S)
        self.assertEqual(self.tell(matrix_of, (1, 1)), (1, 0, 1, 1))
        self.assertEqual(self.tell(matrix_of, (0, 0, 0)), (-1, 0, 0, -1))
        self.assertEqual(self.tell(matrix_of, (0, 1)), (0, -1, 1, 1))
        self.assertEqual(matrix_of((10 ** 500,)), (1, 10 ** 500, 0, 1))

    def test_against_the_definition(self):
        for _ in range(300):
            word = tuple([CHANCE.randint(-9, 9) for _ in range(CHANCE.randint(1, 12))])
            self.assertEqual(self.tell(matrix_of, word), slow_matrix(word))

    def test_longest(self):
        self.assertEqual(matrix_of((0,) * 6000), slow_matrix((0,) * 6000))
        self.assertEqual(matrix_of((0,) * 6000), (0, 1, -1, 0))
        word = tuple([CHANCE.randint(-10 ** 9, 10 ** 9) for _ in range(6000)])
        a, b, c, d = matrix_of(word)
        self.assertEqual(a * d - b * c, 1)
        self.assertEqual(matrix_of((2,) * 6000), slow_matrix((2,) * 6000))

    def test_wrong(self):
        self.fails_in_turn(matrix_of, [(1,)], [(BadWord, NO_WORDS)])


class TestWordOf(Case):

    def check_word(self, matrix):
        word = self.tell(word_of, matrix)
        self.assertIs(type(word), tuple)
        self.assertTrue(all(type(k) is int for k in word))
        self.assertGreaterEqual(len(word), 1)
        self.assertLessEqual(len(word), digits(matrix[2]) + 3)
        self.assertEqual(matrix_of(word), matrix)

    def test_of_many(self):
        for _ in range(500):
            self.check_word(some_matrix(9, 9))

    def test_of_all_small_second_rows(self):
        for c in range(-40, 41):
            for a in range(-45, 46):
                for b in range(-3, 4) if c == 0 else [0]:
                    if c == 0:
                        if abs(a) == 1:
                            self.check_word((a, b, 0, a))
                        continue
                    d = next((d for d in range(abs(c)) if (a * d - 1) % c == 0), None)
                    if d is not None:
                        for shift in (0, c, -3 * c):
                            self.check_word((a, (a * (d + shift) - 1) // c, c, d + shift))

    def test_without_c(self):
        for b in (0, 1, -1, 7, -(10 ** 50)):
            for sign in (1, -1):
                self.check_word((sign, b, 0, sign))

    def test_not_of_the_negative_one(self):
        for _ in range(200):
            matrix = some_matrix()
            self.assertNotEqual(matrix_of(word_of(matrix)), tuple([-x for x in matrix]))

    def test_great_numbers_of_both_signs(self):
        for count in (30, 60, 100):
            for _ in range(10):
                matrix = great_matrix(count)
                self.check_word(matrix)
                self.check_word(tuple([-x for x in matrix]))
        power = 10 ** 300
        self.check_word((1, 0, power, 1))
        self.check_word((1, 0, -power, 1))
        self.check_word((1 - power, power, -power, power + 1))
        self.check_word((power, power * (power - 1) - 1, 1, power - 1))

    def test_at_powers_of_two(self):
        for k in range(1, 60):
            for c in (2 ** k - 1, 2 ** k, 2 ** k + 1):
                for a in (1, c - 1, c // 2, c // 2 - 1, c // 2 + 1, c // 3):
                    if gcd(a, c) == 1:
                        d = pow(a, -1, c)
                        for shift in (0, c, -c):
                            matrix = (a, (a * (d + shift) - 1) // c, c, d + shift)
                            self.check_word(matrix)
                            self.check_word(tuple([-x for x in matrix]))
                            self.check_word((-matrix[0], matrix[1], c, -matrix[3]))

    def test_wrong(self):
        self.fails_in_turn(word_of, [S], [(BadMatrix, NO_MATRICES)])


class TestChainOf(Case):

    def check_chain(self, matrix):
        chain = self.tell(chain_of, matrix)
        self.assertIs(type(chain), tuple)
        self.assertEqual(matrix_of(chain), matrix)
        self.assertTrue(all(k >= 2 for k in chain[1:-1]))
        self.assertEqual(len(chain) == 1, matrix[2] == 0)

    def test_by_hand(self):
        self.assertEqual(self.tell(chain_of, (1, 0, 1, 1)), (1, 1))
        self.assertEqual(self.tell(chain_of, (1, 7, 0, 1)), (7,))
        self.assertEqual(self.tell(chain_of, (1, 0, 0, 1)), (0,))
        self.assertEqual(self.tell(chain_of, S), (0, 0))
        self.assertEqual(self.tell(chain_of, (1, 0, 2, 1)), (1, 2, 1))
        self.assertEqual(self.tell(chain_of, (1, 0, 5, 1)), (1, 2, 2, 2, 2, 1))

    def test_of_many(self):
        for _ in range(500):
            self.check_chain(upright(some_matrix(8, 6)))

    def test_there_is_one_only(self):
        seen = {}
        for _ in range(2000):
            size = CHANCE.randint(1, 7)
            inner = [CHANCE.randint(2, 5) for _ in range(size - 2)]
            outer = [CHANCE.randint(-4, 4) for _ in range(min(size, 2))]
            chain = tuple(outer[:1] + inner + outer[1:])
            matrix = matrix_of(chain)
            self.assertEqual(upright(matrix), matrix)
            self.assertEqual(chain_of(matrix), chain)
            self.assertEqual(seen.setdefault(matrix, chain), chain)

    def test_longest(self):
        for inner in (2, 3, 10 ** 9):
            chain = (-7,) + (inner,) * 2998 + (10 ** 20,)
            self.assertEqual(chain_of(matrix_of(chain)), chain)
            self.fails_many(3000, chain_of, matrix_of((-7,) + (inner,) * 2999 + (10 ** 20,)))
        self.assertEqual(len(chain_of((1, 0, 2999, 1))), 3000)
        self.fails_many(3000, chain_of, (1, 0, 3000, 1))
        self.assertEqual(chain_of((1, 10 ** 400, 0, 1)), (10 ** 400,))

    def test_far_too_long(self):
        power = 10 ** 300
        self.fails_many(3000, chain_of, (1, 0, power, 1))
        self.fails_many(3000, chain_of, (power + 1, 1, power, 1))

    def test_great_numbers(self):
        for count in (20, 40):
            for _ in range(5):
                word = [CHANCE.randint(2, 10 ** 9) for _ in range(count)]
                self.assertEqual(chain_of(matrix_of(tuple(word))), tuple(word))
        self.assertEqual(chain_of((-1, 0, 10 ** 300, -1)), (0, 10 ** 300, 0))

    def test_wrong(self):
        lying = [(-1, 0, 0, -1), (-1, 5, 0, -1), (0, 1, -1, 0), (1, 0, -2, 1), (1, 0, -(10 ** 300), 1)]
        self.fails_in_turn(chain_of, [S], [(BadMatrix, NO_MATRICES + lying)])


if __name__ == "__main__":
    unittest.main()
