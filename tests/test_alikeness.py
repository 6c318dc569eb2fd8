"""Which terms are alike, and how far their coefficients tell all ([62])."""

import random
import unittest
from fractions import Fraction
from math import gcd, isqrt, lcm, prod

from etasure.alikeness import class_bound, class_places, parted_by, same_class
from etasure.classes import alike
from etasure.cosets import index_of
from etasure.errors import BadLevel, BadSum, BadTerm, NotOne
from etasure.groups import generators
from etasure.matrices import is_matrix, upright
from etasure.pieces import piece_sign
from etasure.quotients import is_quotient
from etasure.terms import is_term, term_least, term_level, term_multiplier, term_twice
from etasure.units import unit_basis
from tests.helpers import NO_LEVELS, NO_SUMS, NO_TERMS, TurnedCase, divisors, fraction
from tests.test_classes import multiplied, some_borne, some_related
from tests.test_cusps import matrix_of_level
from tests.test_pieces import FIVE
from tests.test_sums import JACOBI, MODULAR
from tests.test_terms import RIGHT, some_term

CHANCE = random.Random(62)
SEVEN = ("part", 7, ((1, -1), (7, 7)))


def conditions_hold(level, one, other):
    """What the document tells of two terms of one class."""
    less = multiplied(one[1], other[1], -1)
    size = sum(less.values())
    if term_twice(one) != term_twice(other):
        return False
    worth = prod([d ** abs(r) for d, r in less.items()]) * prod([piece_sign(piece) for piece in one[2] + other[2]])
    worth *= (-1) ** (abs(size) // 2)
    return (sum(d * r for d, r in less.items()) % 24 == 0 and sum(level // d * r for d, r in less.items()) % 24 == 0
            and worth > 0 and isqrt(worth) ** 2 == worth)


def some_like_pair():
    """Two terms and a level for both, alike or nearly so."""
    while True:
        one = some_term(pieces=2, reach=4)
        level = term_level(one)
        quotient, pieces = dict(one[1]), list(one[2])
        for unit in unit_basis(level):
            if CHANCE.random() < 0.4:
                quotient = multiplied(quotient, unit, CHANCE.choice([-1, 1]))
        change = CHANCE.random()
        if change < 0.3 and level % 2 == 0:
            pieces.append(("two", 2))
            quotient = multiplied(quotient, {1: -4} if CHANCE.random() < 0.5 else {1: -2, level: -2})
        elif change < 0.5:
            quotient = multiplied(quotient, {CHANCE.choice(divisors(level)): 1, CHANCE.choice(divisors(level)): -1})
        elif change < 0.7 and level % 5 == 0:
            pieces.append(FIVE)
            quotient = multiplied(quotient, {1: -5, 5: 1} if CHANCE.random() < 0.7 else {1: 1, 5: -5})
        other = (CHANCE.randint(1, 9), quotient, tuple(sorted(pieces)))
        if is_term(other):
            level = lcm(level, term_level(other))
            return min(CHANCE.choice([level, 2 * level, 3 * level]), 360 // level * level), one, other


class TestClasses(TurnedCase):

    def check(self, level, one, other):
        told = self.tell(same_class, level, one, other)
        self.assertIs(told, conditions_hold(level, one, other))
        parted = self.tell(parted_by, level, one, other)
        if told:
            self.assertIsNone(parted)
            for _ in range(12):
                matrix = upright(matrix_of_level(level))
                self.assertEqual(term_multiplier(one, matrix), term_multiplier(other, matrix))
        elif term_twice(one) != term_twice(other):
            self.assertEqual(parted, ("weight",))
        else:
            self.assertTrue(is_matrix(parted) and upright(parted) == parted and parted[2] % level == 0)
            self.assertNotEqual(term_multiplier(one, parted), term_multiplier(other, parted))
        return told

    def test_by_hand(self):
        for level in (4, 8, 360):
            for one in JACOBI:
                for other in JACOBI:
                    self.assertIs(self.check(level, one, other), True)
        self.assertIs(self.check(1, *MODULAR[:2]), True)
        self.assertIs(self.check(1, MODULAR[0], MODULAR[2]), True)
        self.assertIs(self.check(1, MODULAR[0], (1, {}, (("four", 1),))), False)
        self.assertIs(self.check(5, (1, {}, (FIVE,)), (1, {1: -1, 5: 5}, ())), True)
        self.assertIs(self.check(5, (1, {}, (FIVE,)), (1, {}, (("two", 5),))), False)
        self.assertIs(self.check(5, (1, {}, (FIVE, FIVE)), (1, {}, (("two", 5),) * 2)), True)
        self.assertIs(self.check(7, (1, {}, (SEVEN,)), (1, {1: 7, 7: -1}, ())), True)

    def test_of_many(self):
        counts = {True: 0, False: 0}
        for _ in range(350):
            level, one, other = some_like_pair()
            counts[self.check(level, one, other)] += 1
        self.assertGreater(min(counts.values()), 60)

    def test_by_generators(self):
        for _ in range(120):
            level, one, other = some_like_pair()
            if level <= 48:
                matrices = [matrix for matrix, _ in generators(level)]
                same = all(term_multiplier(one, matrix) == term_multiplier(other, matrix) for matrix in matrices)
                self.assertIs(same_class(level, one, other), same and term_twice(one) == term_twice(other))

    def test_quotients_alone_are_as_alike(self):
        for _ in range(150):
            level = CHANCE.randint(1, 48)
            one, other = some_related(level)
            if is_quotient(one) and is_quotient(other):
                level *= CHANCE.randint(1, 360 // level)
                self.assertIs(same_class(level, (2, one, ()), (-7, other, ())), alike(level, one, other))

    def test_wrong(self):
        for function in (same_class, parted_by):
            self.fails_in_turn(function, [30, RIGHT[4], RIGHT[0]],
                               [(BadLevel, NO_LEVELS), (BadTerm, NO_TERMS), (BadTerm, NO_TERMS)])
            for level, one, other in ((3, RIGHT[4], RIGHT[0]), (3, RIGHT[0], RIGHT[4]), (180, RIGHT[0], RIGHT[3])):
                self.fails(BadLevel, function, level, one, other)
            self.fails(BadTerm, function, 3, RIGHT[4], (0, {}, ()))


class TestPlaces(TurnedCase):

    def test_by_hand(self):
        self.assertEqual(self.tell(class_places, 1, []), [])
        self.assertEqual(self.tell(class_places, 4, JACOBI), [[0, 1, 2]])
        self.assertEqual(self.tell(class_places, 4, [JACOBI[0], *MODULAR, *JACOBI[1:]]), [[0, 4, 5], [1, 2, 3]])
        self.assertEqual(self.tell(class_places, 1, [(1, {1: k}, ()) for k in (1, 2, 1, 25, 2)]),
                         [[0, 2], [1, 4], [3]])

    def test_of_many(self):
        for _ in range(60):
            level, one, other = some_like_pair()
            terms = [one, other, (1, {}, ()), other, (1, {level: 24}, ()), (2, {1: 24}, ()), (1, some_borne(level), ())]
            CHANCE.shuffle(terms)
            told = self.tell(class_places, level, terms)
            self.assertEqual(sorted(place for places in told for place in places), list(range(7)))
            self.assertEqual([places[0] for places in told], sorted(places[0] for places in told))
            for places in told:
                self.assertEqual(places, sorted(places))
                for place in range(7):
                    self.assertIs(same_class(level, terms[places[0]], terms[place]), place in places)

    def test_longest(self):
        self.assertEqual(class_places(360, [(k + 1, {360: 1}, ()) for k in range(40)]), [list(range(40))])

    def test_wrong(self):
        self.fails_in_turn(class_places, [4, JACOBI], [(BadLevel, NO_LEVELS), (BadSum, NO_SUMS)])
        self.fails(BadLevel, class_places, 2, JACOBI)


def slow_bound(level, terms):
    told = Fraction(term_twice(terms[0]) * index_of(level), 24)
    for c in divisors(level)[:-1]:
        common = gcd(c, level // c)
        cusps = len([u for u in range(1, common + 1) if gcd(u, common) == 1])
        told -= cusps * (level // gcd(c * c, level)) * min(fraction(term_least(term, c)) for term in terms)
    return told


class TestBound(TurnedCase):

    def test_by_hand(self):
        self.assertEqual(self.tell(class_bound, 4, JACOBI), (1, 1))
        self.assertEqual(self.tell(class_bound, 1, MODULAR), (1, 1))
        self.assertEqual(self.tell(class_bound, 5, [(1, {1: -5}, (FIVE,))]), (19, 24))
        self.assertEqual(self.tell(class_bound, 1, [(1, {}, ())]), (0, 1))

    def test_by_the_definition(self):
        for _ in range(150):
            level, one, other = some_like_pair()
            terms = [one, other] if same_class(level, one, other) else [one]
            self.assertEqual(fraction(self.tell(class_bound, level, terms)), slow_bound(level, terms))

    def test_quotients_alone_are_bound_by_their_starts(self):
        for level in (1, 6, 25, 36, 360):
            quotient = some_borne(level, 20)
            start = Fraction(sum(d * r for d, r in quotient.items()), 24)
            self.assertEqual(fraction(self.tell(class_bound, level, [(-3, quotient, ())])), start)

    def test_wrong(self):
        self.fails_in_turn(class_bound, [4, JACOBI], [(BadLevel, NO_LEVELS), (BadSum, NO_SUMS)])
        self.fails(BadLevel, class_bound, 2, JACOBI)
        self.fails(BadLevel, class_bound, 2, [JACOBI[0], MODULAR[0]])
        self.fails(NotOne, class_bound, 4, [])
        self.fails(NotOne, class_bound, 4, [JACOBI[0], MODULAR[0]])
        self.fails(NotOne, class_bound, 1, [(1, {}, ()), (1, {1: 24}, ())])


if __name__ == "__main__":
    unittest.main()
