"""All relations between terms ([64])."""

import random
import unittest
from fractions import Fraction

from etasure.alikeness import class_bound, class_places, same_class
from etasure.equal import is_zero
from etasure.errors import BadLevel, BadSum, BadTerm, NotOne
from etasure.lattice import holomorphic_ones
from etasure.relations import against, combination, free_places, relations, sum_rank
from etasure.sums import coefficients, is_sum, sum_level
from etasure.terms import is_term
from tests.helpers import NO_LEVELS, NO_SUMS, NO_TERMS, TurnedCase, fraction, ratio
from tests.identities_at_hand import ZEROS
from tests.test_equal import LONG, WIDE, WIDER
from tests.test_sums import JACOBI, MODULAR, slow_coefficients

CHANCE = random.Random(64)
THREE = [(1, quotient, pieces) for _, quotient, pieces in JACOBI]
KINDS = [(1, 24), (2, 8), (2, 16), (3, 12), (4, 4), (4, 8), (5, 8), (6, 4), (8, 4), (9, 4), (12, 2)]
POOLS = {}


def pool_of(level, twice):
    """The quotients of a level with no order below 0, by classes, as terms; with some pieces."""
    if (level, twice) not in POOLS:
        terms = [(1, quotient, ()) for quotient in holomorphic_ones(level, twice)]
        for pieces, weight in (((("four", 1),), 4), ((("six", 1),), 6), ((("two", 2),), 2), ((("two", 4),), 2),
                               ((("two", 3),), 2), ((("four", 2),), 4), ((("four", 1),) * 2, 8),
                               ((("six", 1),) * 2, 12), ((("four", 1),) * 3, 12), ((("two", 2), ("two", 2)), 4),
                               ((("two", 2), ("two", 4)), 4),
                               ((("part", 2, ((1, 8), (2, 8))),), 8), ((("part", 5, ((1, -1), (5, 5))),), 2)):
            for quotient in holomorphic_ones(level, twice - 2 * weight):
                terms.append((1, quotient, pieces))
        terms = [term for term in terms if is_term(term) and level % sum_level([term]) == 0]
        places = [[terms[start + at] for at in places] for start in range(0, len(terms), 40)
                  for places in class_places(level, terms[start:start + 40])]
        POOLS[level, twice] = [chosen for chosen in places if len(chosen) > 1]
    return POOLS[level, twice]


def some_class(most=7):
    """A level and terms of one class there, most of them with relations between them."""
    level, twice = CHANCE.choice(KINDS)
    pool = CHANCE.choice(pool_of(level, twice))
    terms = [CHANCE.choice(pool) for _ in range(CHANCE.randint(1, most))]
    return level, [(CHANCE.choice([1, 1, 1, -1, 2, 3, 10]), quotient, pieces) for _, quotient, pieces in terms]


def some_sum_of_classes():
    level, terms = some_class(5)
    terms += [(1, {}, ()), (2, {1: 24}, ())][:CHANCE.randint(0, 2)]
    other = CHANCE.choice(ZEROS)
    if level * 2 % sum_level(other) == 0:
        level, terms = 2 * level, terms + other
    CHANCE.shuffle(terms)
    return level, terms


def scaled(terms, numbers):
    """The sum of whole multiples of the terms."""
    return [(x * number, quotient, pieces) for x, (number, quotient, pieces) in zip(numbers, terms) if x]


def rank_of_rows(rows):
    """The rank by fractions."""
    rows = [[Fraction(x) for x in row] for row in rows]
    rank = 0
    while rows and rows[0]:
        chosen = next((row for row in rows if row[0]), None)
        if chosen is not None:
            rank += 1
            rows = [[x - row[0] / chosen[0] * y for x, y in zip(row, chosen)] for row in rows if row is not chosen]
        rows = [row[1:] for row in rows]
    return rank


def rows_of(level, terms, more=0):
    """The coefficients of the terms of one class up to the bound and some more."""
    last = fraction(class_bound(level, terms)) + more
    found = [slow_coefficients([term], last) for term in terms]
    places = sorted({at for one in found for at in one})
    return [[one.get(at, 0) for at in places] for one in found]


class TestRelations(TurnedCase):

    def check_form(self, told, count):
        heads = []
        for row in told:
            self.assertEqual(len(row), count)
            self.assertTrue(all(type(x) is int for x in row))
            heads.append(next(at for at, x in enumerate(row) if x))
            self.assertGreater(row[heads[-1]], 0)
        self.assertEqual(heads, sorted(set(heads)))
        for at, head in enumerate(heads):
            for row in told[:at]:
                self.assertTrue(0 <= row[head] < told[at][head])

    def test_by_hand(self):
        self.assertEqual(self.tell(relations, 4, THREE), [[1, -1, -16]])
        self.assertEqual(self.tell(free_places, 4, THREE), [0, 1])
        self.assertEqual(self.tell(sum_rank, 4, THREE), 2)
        self.assertEqual(self.tell(relations, 4, JACOBI), [[1, 1, 1]])
        self.assertEqual(self.tell(relations, 1, []), [])
        self.assertEqual(self.tell(free_places, 1, []), [])
        self.assertEqual(self.tell(sum_rank, 360, []), 0)
        self.assertEqual(self.tell(relations, 4, [THREE[2], *THREE[:2]]), [[16, -1, 1]])
        self.assertEqual(self.tell(relations, 1, [(2, {}, ()), (3, {}, ())]), [[3, -2]])
        self.assertEqual(self.tell(relations, 1, [(1, {1: 1}, ())] * 3), [[1, 0, -1], [0, 1, -1]])
        mixed = [(2, {}, ()), (1, {1: 1}, ()), (4, {}, ()), (5, {1: 1}, ()), (6, {}, ())]
        self.assertEqual(self.tell(relations, 1, mixed), [[1, 0, 1, 0, -1], [0, 5, 0, -1, 0], [0, 0, 3, 0, -2]])
        nothing = (1, {1: 3}, (("part", 2, ((2, 12),)),))
        self.assertEqual(self.tell(relations, 4, [nothing]), [[1]])
        self.assertEqual(self.tell(free_places, 4, [nothing]), [])

    def test_of_many(self):
        found = 0
        for _ in range(120):
            level, terms = some_class() if CHANCE.random() < 0.6 else some_sum_of_classes()
            told = self.tell(relations, level, terms)
            found += len(told)
            self.check_form(told, len(terms))
            for row in told:
                self.assertIs(is_zero(level, scaled(terms, row)), True)
            free = self.tell(free_places, level, terms)
            self.assertEqual(len(free) + len(told), len(terms))
            self.assertEqual(self.tell(sum_rank, level, terms), len(free))
            for at in range(len(terms)):
                before = len(relations(level, terms[:at]))
                self.assertIs(at in free, len(relations(level, terms[:at + 1])) == before)
        self.assertGreater(found, 100)

    def test_each_relation_is_a_sum_of_them(self):
        for _ in range(60):
            level, terms = some_class(5)
            told = relations(level, terms)
            reach = 3
            for _ in range(150):
                numbers = [CHANCE.randint(-reach, reach) for _ in terms]
                if told and CHANCE.random() < 0.3:
                    # Divide a sum of them by a common divisor: what comes is a relation, too.
                    mixed = [sum(k * x for k, x in zip((2, -4, 6, 2, 4, 2), column)) for column in zip(*told)]
                    numbers = [x // 2 for x in mixed]
                sums = [sum(x * y for x, y in zip(numbers, column)) for column in zip(*rows_of(level, terms))]
                self.assertIs(not any(sums), in_span(told, numbers))

    def test_rank(self):
        for _ in range(60):
            level, terms = some_class()
            self.assertEqual(sum_rank(level, terms), rank_of_rows(rows_of(level, terms, 12)))

    def test_relations_are_those_of_each_class(self):
        for _ in range(30):
            level, terms = some_sum_of_classes()
            rows = []
            for places in class_places(level, terms):
                for relation in relations(level, [terms[place] for place in places]):
                    row = [0] * len(terms)
                    for place, x in zip(places, relation):
                        row[place] = x
                    rows.append(row)
            self.assertEqual(sorted(rows, key=lambda row: next(at for at, x in enumerate(row) if x)),
                             relations(level, terms))

    def test_forty_terms(self):
        terms = [(k + 1, THREE[k % 3][1], ()) for k in range(40)]
        told = relations(4, terms)
        self.check_form(told, 40)
        self.assertEqual(len(told), 38)
        self.assertEqual(free_places(4, terms), [0, 1])
        great = [(10 ** 60 - k, THREE[k % 3][1], ()) for k in range(4)]
        told = relations(4, great)
        self.check_form(told, 4)
        for row in told:
            found = slow_coefficients(great, Fraction(0))
            self.assertTrue(found)
            rows = rows_of(4, great, 9)
            self.assertTrue(all(sum(x * y for x, y in zip(row, column)) == 0 for column in zip(*rows)))

    def test_bounds(self):
        self.assertEqual(relations(311, [WIDE[0], WIDE[0], WIDE[1]]), [[1, -1, 0]])
        for function in (relations, free_places, sum_rank):
            self.fails_many(3000, function, 311, WIDER)
            self.fails_many(6000, function, 360, [LONG])
            self.fails_in_turn(function, [4, JACOBI], [(BadLevel, NO_LEVELS), (BadSum, NO_SUMS)])
            self.fails(BadLevel, function, 2, JACOBI)


def in_span(base, numbers):
    """Whether the numbers are a sum of whole multiples of a base in steps."""
    for row in base:
        head = next(at for at, x in enumerate(row) if x)
        if numbers[head] % row[head]:
            return False
        numbers = [x - numbers[head] // row[head] * y for x, y in zip(numbers, row)]
    return not any(numbers)


class TestCombination(TurnedCase):

    def test_by_hand(self):
        self.assertEqual(self.tell(combination, 4, THREE[2], THREE[:2]), [(1, 16), (-1, 16)])
        self.assertIsNone(self.tell(against, 4, THREE[2], THREE[:2]))
        self.assertIsNone(self.tell(combination, 4, THREE[2], THREE[:1]))
        self.assertEqual(self.tell(combination, 1, (3, {}, ()), [(2, {}, ()), (5, {}, ())]), [(3, 2), (0, 1)])
        self.assertIsNone(self.tell(combination, 1, (3, {}, ()), []))
        self.assertEqual(list(self.tell(against, 1, (3, {1: 1}, ()), [])), [(1, 24)])
        nothing = (1, {1: 3}, (("part", 2, ((2, 12),)),))
        self.assertEqual(self.tell(combination, 4, nothing, []), [])
        self.assertIsNone(self.tell(against, 4, nothing, []))
        self.assertEqual(self.tell(combination, 4, nothing, [nothing]), [(0, 1)])
        self.assertIsNone(self.tell(combination, 1, MODULAR[0], [MODULAR[1]]))
        self.assertEqual(self.tell(combination, 1, MODULAR[0], MODULAR[1:]), [(-1, 1), (-1, 1)])

    def test_just_one_of_both(self):
        counts = {True: 0, False: 0}
        for _ in range(120):
            level, terms = some_class(6)
            target, terms = terms[0], terms[1:]
            ratios, numbers = self.tell(combination, level, target, terms), self.tell(against, level, target, terms)
            counts[ratios is None] += 1
            self.assertIs(ratios is None, numbers is not None)
            if ratios is None:
                self.check_against(level, target, terms, numbers)
                continue
            free = free_places(level, terms)
            self.assertEqual(len(ratios), len(terms))
            self.assertTrue(all(told == (0, 1) for at, told in enumerate(ratios) if at not in free))
            self.assertTrue(all(ratio(fraction(told)) == told for told in ratios))
            rows = rows_of(level, terms + [target], 24)
            for column in zip(*rows):
                self.assertEqual(sum(fraction(x) * y for x, y in zip(ratios, column)), column[-1])
        self.assertGreater(min(counts.values()), 30)

    def check_against(self, level, target, terms, numbers):
        self.assertEqual(list(numbers), sorted(numbers, key=fraction))
        self.assertTrue(numbers and all(x != 0 for x in numbers.values()))
        bound = fraction(class_bound(level, [*terms, target]))
        self.assertTrue(all(24 % at[1] == 0 and fraction(at) <= bound for at in numbers))
        for term in terms:
            found = coefficients([term], ratio(bound))
            self.assertEqual(sum(x * found.get(at, 0) for at, x in numbers.items()), 0)
        found = coefficients([target], ratio(bound))
        self.assertNotEqual(sum(x * found.get(at, 0) for at, x in numbers.items()), 0)

    def test_bounds(self):
        for function in (combination, against):
            self.fails_many(3000, function, 311, WIDER[0], WIDER[1:])
            self.fails_many(6000, function, 360, LONG, [])
        self.assertEqual(combination(311, WIDE[0], WIDE), [(1, 1), (0, 1)])
        self.assertIsNone(combination(311, WIDE[0], WIDE[1:]))

    def test_wrong(self):
        for function in (combination, against):
            self.fails_in_turn(function, [4, THREE[2], THREE[:2]],
                               [(BadLevel, NO_LEVELS), (BadTerm, NO_TERMS), (BadSum, NO_SUMS)])
            self.fails(BadLevel, function, 2, THREE[2], [])
            self.fails(BadLevel, function, 2, (1, {}, ()), THREE)
            self.fails(BadLevel, function, 2, THREE[2], MODULAR)
            self.fails(NotOne, function, 4, THREE[2], MODULAR)
            self.fails(NotOne, function, 4, THREE[2], [THREE[0], (1, {}, ())])
            self.fails(NotOne, function, 4, (1, {}, ()), THREE)
            self.fails(NotOne, function, 311, (1, {}, ()), WIDER)
        self.assertTrue(is_sum(THREE) and same_class(4, THREE[0], THREE[2]))


if __name__ == "__main__":
    unittest.main()
