"""Free generators and paths ([25])."""

import random
import unittest

from etasure.cosets import all_points, matrix_at, point_of
from etasure.errors import BadLevel, BadMatrix, BadPath
from etasure.genus import elliptic, rank_of
from etasure.groups import along, generators, is_path, path_of
from etasure.matrices import composed, inverted, is_matrix, upright
from etasure.words import chain_of, matrix_of
from tests.helpers import NO_LEVELS, NO_MATRICES, Case

CHANCE = random.Random(25)
LEVELS = range(1, 61)
SIGNS = ((1, 0, 0, 1), (-1, 0, 0, -1))
NO_PATHS = [[(0, 1)], [], (0, 1), ((0, 1, 1),), ((0,),), ([0, 1],), ((0, 0),), ((-1, 1),), ((99, 1),), ((0, True),),
            ((True, 1),), ((False, 1),), ((0, 1.0),), ((0, None),), ("01",), (None,), ((0, 1), (0, 1)),
            ((1, 1), (1, 1)), ((0, 1), None), {0: 1}, "path"]


def power(matrix, k):
    told = (1, 0, 0, 1)
    for _ in range(abs(k)):
        told = composed(told, matrix if k > 0 else inverted(matrix))
    return told


def reduced(steps, orders):
    """The path of a product of powers of generators."""
    path = []
    for place, exponent in steps:
        if path and path[-1][0] == place:
            exponent += path.pop()[1]
        if orders[place]:
            exponent %= orders[place]
        if exponent:
            path.append((place, exponent))
    return tuple(path)


def some_path(level, steps, reach=3):
    """A path, whose neighbours are unlike."""
    orders = [order for _, order in generators(level)]
    found = []
    for _ in range(steps):
        place = CHANCE.randrange(len(orders))
        if orders[place]:
            found.append((place, CHANCE.randint(1, orders[place] - 1)))
        else:
            found.append((place, CHANCE.choice([-1, 1]) * CHANCE.randint(1, reach)))
    return reduced(found, orders), orders


def chain_sum(matrix):
    return sum(abs(k) for k in chain_of(matrix))


def long_chains(level):
    """Upright matrices of the level whose chains have sums near the bound."""
    found = []
    words = [(600,), (-600,), (300, -300), (-300, -300), (300, 300), (0,) + (2,) * 300 + (0,),
             (-3,) + (3,) * 198 + (-3,), (1,) + (2, 3) * 119 + (1,), (-50, 500, -50), (200, 5, 390),
             (-200, 2, 2, 2, -390)]
    for word in words:
        matrix = matrix_of(word)
        for k in range(-1, 2):
            # Of the matrices matrix * S * T ** j one may be of the level.
            a, b, c, d = matrix
            if (c * k + d) % level == 0:
                found.append(upright(composed(matrix, (k, -1, 1, 0))))
        if matrix[2] % level == 0:
            found.append(upright(matrix))
    for k in (-1, 1):
        found.append((1, 600 * k, 0, 1))
        found.append(upright((1, 0, k * level * (598 // level), 1)))
    return [matrix for matrix in found if chain_sum(matrix) <= 600]


class TestGenerators(Case):

    def test_at_all_levels(self):
        for level in LEVELS:
            told = self.tell(generators, level)
            self.assertIs(type(told), list)
            twos, threes = elliptic(level)
            orders = [order for _, order in told]
            self.assertEqual(len(told), rank_of(level))
            self.assertEqual(orders.count(2), twos)
            self.assertEqual(orders.count(3), threes)
            self.assertEqual(orders.count(0), rank_of(level) - twos - threes)
            for matrix, order in told:
                self.assertTrue(is_matrix(matrix))
                self.assertEqual(upright(matrix), matrix)
                self.assertEqual(matrix[2] % level, 0)
                self.assertNotIn(matrix, SIGNS)
                if order:
                    self.assertIn(power(matrix, order), SIGNS)
                else:
                    self.assertGreaterEqual(abs(matrix[0] + matrix[3]), 2)

    def test_by_hand(self):
        self.assertEqual(sorted(order for _, order in generators(1)), [2, 3])
        self.assertEqual(sorted(order for _, order in generators(2)), [0, 2])
        self.assertEqual([order for _, order in generators(11)], [0, 0, 0])

    def test_equal_and_new_each_time(self):
        told = generators(12)
        kept = list(told)
        told.clear()
        self.assertEqual(generators(12), kept)

    def test_level_bound(self):
        self.assertEqual(len(generators(60)), rank_of(60))
        for level in (61, 62, 359, 360):
            self.fails_many(60, generators, level)

    def test_wrong(self):
        self.fails_in_turn(generators, [1], [(BadLevel, NO_LEVELS)])


class TestIsPath(Case):

    def test_right_ones(self):
        for level in (1, 2, 3, 7, 11, 13, 36, 37, 60):
            right = [()] + [some_path(level, steps)[0] for steps in range(1, 12)]
            orders = [order for _, order in generators(level)]
            for place, order in enumerate(orders):
                exponents = {0: [1, -1, 7, 9000, -9000], 2: [1], 3: [1, 2]}[order]
                right.extend([((place, exponent),) for exponent in exponents])
            self.judges(is_path, right, NO_PATHS, level)

    def test_exponents_at_their_bounds(self):
        for level in (1, 2, 3, 7, 13, 11, 60):
            orders = [order for _, order in generators(level)]
            for place, order in enumerate(orders):
                for exponent in (-9001, -9000, -3, -2, -1, 0, 1, 2, 3, 9000, 9001, 10 ** 30, -(10 ** 30)):
                    right = {0: exponent != 0 and abs(exponent) <= 9000, 2: exponent == 1, 3: exponent in (1, 2)}[order]
                    self.assertIs(is_path(level, ((place, exponent),)), right)
                    if not right:
                        self.fails(BadPath, along, level, ((place, exponent),))
            self.assertIs(is_path(level, ((len(orders), 1),)), False)
            self.assertIs(is_path(level, ((-1, 1),)), False)

    def test_sum_of_exponents(self):
        orders = [order for _, order in generators(11)]
        self.assertEqual(orders, [0, 0, 0])
        self.assertIs(is_path(11, ((0, 4500), (1, -4500))), True)
        self.assertIs(is_path(11, ((0, 4500), (1, -4501))), False)
        self.assertIs(is_path(11, ((0, 9001), (1, -9001))), False)
        self.assertIs(is_path(11, ((0, 1), (1, -1)) * 4500), True)
        self.assertIs(is_path(11, ((0, 1), (1, -1)) * 4500 + ((2, 1),)), False)
        two = [place for place, (_, order) in enumerate(generators(1)) if order == 2][0]
        self.assertIs(is_path(1, ((two, 1), (1 - two, 2)) * 3000), True)
        self.assertIs(is_path(1, ((two, 1), (1 - two, 2)) * 3000 + ((two, 1),)), False)
        self.assertIs(is_path(1, ((two, 1), (1 - two, 1)) * 4500), True)

    def test_neighbours_are_unlike(self):
        self.assertIs(is_path(11, ((0, 1), (0, 1))), False)
        self.assertIs(is_path(11, ((0, 1), (1, 1), (0, 1))), True)
        self.assertIs(is_path(11, ((0, 1), (1, 1), (1, -1), (0, 1))), False)

    def test_by_name_and_levels(self):
        self.assertIs(is_path(level=2, thing=()), True)
        for thing in ((), None, "path"):
            for level in (61, 360):
                self.fails_many(60, is_path, level, thing)
            for level in NO_LEVELS:
                self.fails(BadLevel, is_path, level, thing)


class TestAlong(Case):

    def test_products(self):
        for level in LEVELS:
            told = generators(level)
            for steps in (0, 1, 2, 5):
                path, _ = some_path(level, steps)
                expected = (1, 0, 0, 1)
                for place, exponent in path:
                    expected = composed(expected, power(told[place][0], exponent))
                self.assertEqual(along(level, path), upright(expected))
            self.assertEqual(along(level, ()), (1, 0, 0, 1))
        self.tell(along, 12, ((0, 2), (1, -1)))

    def test_longest(self):
        for level in (1, 2, 11, 60):
            basis = generators(level)
            last = len(basis) - 1
            path = ((0, 1), (last, 1)) * 4500
            matrix = along(level, path)
            self.assertTrue(is_matrix(matrix))
            self.assertEqual(matrix[2] % level, 0)
            step = composed(basis[0][0], basis[last][0])
            half = along(level, ((0, 1), (last, 1)) * 2250)
            self.assertEqual(matrix, upright(composed(half, half)))
            self.assertEqual(along(level, ((0, 1), (last, 1))), upright(step))
            if basis[last][1] == 0:
                once, all_of_it = along(level, ((last, 1),)), along(level, ((last, 9000),))
                self.assertEqual(all_of_it, upright(composed(along(level, ((last, 8999),)), once)))

    def test_wrong(self):
        self.fails_in_turn(along, [11, ((0, 1),)], [(BadLevel, NO_LEVELS), (BadPath, NO_PATHS + [None, 1, True])])
        for path in ((), ((0, 1),), None):
            self.fails_many(60, along, 61, path)


class TestPathOf(Case):

    def check_path(self, level, matrix):
        path = self.tell(path_of, level, matrix)
        self.assertIs(type(path), tuple)
        self.assertIs(is_path(level, path), True)
        self.assertLessEqual(sum(abs(exponent) for _, exponent in path), 2000)
        self.assertEqual(along(level, path), matrix)
        return path

    def test_of_many_matrices(self):
        for level in LEVELS:
            points = all_points(level)
            for _ in range(12):
                point = CHANCE.choice(points)
                word = tuple([CHANCE.randint(-6, 6) for _ in range(CHANCE.randint(1, 8))])
                matrix = composed(matrix_at(level, point), matrix_of(word))
                matrix = composed(matrix, inverted(matrix_at(level, point_of(level, matrix))))
                if chain_sum(upright(matrix)) <= 600:
                    self.check_path(level, upright(matrix))

    def test_generators_and_identity(self):
        for level in LEVELS:
            self.assertEqual(self.check_path(level, (1, 0, 0, 1)), ())
            for place, (matrix, order) in enumerate(generators(level)):
                self.assertEqual(path_of(level, matrix), ((place, 1),))
                back = {0: ((place, -1),), 2: ((place, 1),), 3: ((place, 2),)}[order]
                self.assertEqual(path_of(level, upright(inverted(matrix))), back)

    def test_paths_are_found_again(self):
        checked = 0
        for level in LEVELS:
            for steps in (1, 2, 3, 4, 6):
                path, orders = some_path(level, steps)
                other, _ = some_path(level, steps)
                one_matrix, other_matrix = along(level, path), along(level, other)
                product = upright(composed(one_matrix, other_matrix))
                back = upright(inverted(one_matrix))
                if max(map(chain_sum, (one_matrix, other_matrix, product, back))) <= 600:
                    checked += 1
                    self.assertEqual(path_of(level, one_matrix), path)
                    self.assertEqual(path_of(level, product), reduced(path + other, orders))
                    negated = [(place, -exponent) for place, exponent in reversed(path)]
                    self.assertEqual(path_of(level, back), reduced(negated, orders))
                    cancelled = upright(composed(one_matrix, back))
                    self.assertEqual(path_of(level, cancelled), ())
        self.assertGreater(checked, 200)

    def test_unlike_paths_make_unlike_matrices(self):
        for level in (1, 2, 3, 6, 11, 13):
            seen = {}
            for _ in range(150):
                path, _ = some_path(level, CHANCE.randint(0, 5), 2)
                self.assertEqual(seen.setdefault(along(level, path), path), path)

    def test_near_the_bounds(self):
        checked = 0
        for level in LEVELS:
            for matrix in long_chains(level):
                checked += 1
                self.check_path(level, matrix)
        self.assertGreater(checked, 240)

    def test_sum_of_the_chain(self):
        for level in (1, 2, 7, 60):
            for k in (600, -600):
                self.check_path(level, (1, k, 0, 1))
                self.fails_many(600, path_of, level, (1, k + k // 600, 0, 1))
        self.check_path(1, matrix_of((-1,) + (2,) * 299 + (1,)))
        self.check_path(1, matrix_of((0,) + (2,) * 300 + (0,)))
        self.fails_many(600, path_of, 1, matrix_of((-1,) + (2,) * 300 + (0,)))
        self.fails_many(600, path_of, 1, matrix_of((0,) + (2,) * 300 + (-1,)))
        self.fails_many(600, path_of, 1, matrix_of((0,) + (2,) * 301 + (0,)))
        self.fails_many(600, path_of, 1, (1, 0, 10 ** 300, 1))
        self.fails_many(600, path_of, 1, (1, 10 ** 300, 0, 1))
        self.check_path(1, matrix_of((-300, 300)))
        self.fails_many(600, path_of, 1, matrix_of((-300, 301)))

    def test_wrong(self):
        wrong = NO_MATRICES + [(1, 0, 3, 1), (0, -1, 1, 0), (-1, 0, 0, -1), (-1, 0, -7, -1), (1, 0, -7, 1)]
        self.fails_in_turn(path_of, [7, (1, 0, 7, 1)], [(BadLevel, NO_LEVELS), (BadMatrix, wrong)])
        for matrix in wrong:
            self.fails(BadMatrix, path_of, 77, matrix)
        self.fails_many(60, path_of, 61, (1, 1, 0, 1))
        self.fails_many(60, path_of, 61, (1, 10 ** 9, 0, 1))
        self.fails_many(60, path_of, 360, (1, 0, 360, 1))


if __name__ == "__main__":
    unittest.main()
