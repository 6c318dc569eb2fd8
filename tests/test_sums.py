"""Sums of terms ([61])."""

import random
import unittest
from fractions import Fraction
from math import lcm

from etasure.eisenstein import eisenstein_row
from etasure.errors import BadPair, BadQuotient, BadRatio, BadSum
from etasure.quotients import row_of, start_of
from etasure.rows import row_times
from etasure.sums import coefficients, collected, is_sum, slope, sum_level, sum_times
from etasure.terms import is_term, term_level, term_row, term_start
from tests.helpers import NO_QUOTIENTS, NO_RATIOS, NO_SUMS, TurnedCase, fraction, ratio
from tests.test_classes import some_borne
from tests.test_pieces import FIVE
from tests.test_terms import GREAT, RIGHT, some_term

CHANCE = random.Random(61)
JACOBI = [(1, {1: -8, 2: 20, 4: -8}, ()), (-1, {1: 8, 2: -4}, ()), (-16, {2: -4, 4: 8}, ())]
MODULAR = [(1, {}, (("four", 1),) * 3), (-1, {}, (("six", 1),) * 2), (-1728, {1: 24}, ())]
PLAIN = (1, {1: 1}, ())


def slow_coefficients(terms, last):
    """The dict from fractions to coefficients up to last."""
    found = {}
    for term in terms:
        start = fraction(term_start(term))
        if start <= last:
            for n, x in enumerate(term_row(term, int((last - start) // 1))):
                found[start + n] = found.get(start + n, 0) + x
    return {at: x for at, x in sorted(found.items()) if x}


def by_ratios(found):
    return {ratio(at): x for at, x in found.items()}


def some_sum(count=4, pieces=2, **more):
    return [some_term(pieces=pieces, **more) for _ in range(CHANCE.randint(0, count))]


class TestSums(TurnedCase):

    def test_is_sum(self):
        right = [[], (), JACOBI, tuple(JACOBI), MODULAR, [PLAIN] * 40, (PLAIN,) * 40, RIGHT, [(1, {359: 1}, ()), PLAIN]]
        for thing in right:
            self.assertIs(is_sum(thing), True)
        for thing in NO_SUMS + [[PLAIN, (1, {}, [])], [PLAIN] * 41, "", b"", {1: PLAIN}, iter([PLAIN])]:
            self.assertIs(is_sum(thing), False)
        self.assertIs(is_sum(thing=[]), True)

    def test_level(self):
        self.assertEqual(self.tell(sum_level, []), 1)
        self.assertEqual(self.tell(sum_level, JACOBI), 4)
        self.assertEqual(self.tell(sum_level, MODULAR), 1)
        self.assertEqual(self.tell(sum_level, [(1, {359: 1}, ()), (1, {358: 1}, ())]), 359 * 358)
        for _ in range(60):
            terms = some_sum(5)
            self.assertEqual(self.tell(sum_level, terms), lcm(*[term_level(term) for term in terms]))
        self.fails_in_turn(sum_level, [JACOBI], [(BadSum, NO_SUMS)])

    def test_coefficients_by_hand(self):
        self.assertEqual(self.tell(coefficients, [], (0, 1)), {})
        self.assertEqual(self.tell(coefficients, JACOBI, (40, 1)), {})
        self.assertEqual(self.tell(coefficients, MODULAR, (40, 1)), {})
        self.assertEqual(self.tell(coefficients, JACOBI[:2], (3, 1)), {(1, 1): 16, (3, 1): 64})
        self.assertEqual(self.tell(coefficients, [PLAIN, (2, {1: -1}, ())], (25, 24)),
                         {(-1, 24): 2, (1, 24): 1, (23, 24): 2, (25, 24): -1})
        self.assertEqual(self.tell(coefficients, [PLAIN], (1, 25)), {})
        self.assertEqual(self.tell(coefficients, [PLAIN], (1, 24)), {(1, 24): 1})
        self.assertEqual(self.tell(coefficients, [PLAIN], (-(10 ** 60), 7)), {})

    def test_coefficients_of_many(self):
        for _ in range(60):
            terms = some_sum(4)
            starts = [fraction(term_start(term)) for term in terms] + [Fraction(0)]
            last = min(starts) + Fraction(CHANCE.randint(-10, 60), CHANCE.choice([1, 2, 5, 24, 35]))
            told = self.tell(coefficients, terms, ratio(last))
            self.assertEqual(told, by_ratios(slow_coefficients(terms, last)))
            self.assertEqual(list(told), sorted(told, key=fraction))

    def test_coefficients_bounds(self):
        terms = [PLAIN, (1, {1: 25}, ())]
        told = coefficients(terms, (72001, 24))
        self.assertEqual(told, by_ratios(slow_coefficients(terms, Fraction(72001, 24))))
        self.fails_many(3000, coefficients, terms, (36001, 12))
        self.fails_many(3000, coefficients, terms, (10 ** 60, 1))
        self.fails_many(3000, coefficients, [(1, {}, (("part", 60, ()),)), PLAIN], (3001, 1))
        self.assertEqual(coefficients([(1, {}, (("part", 60, ()),))], (201, 2)), {(0, 1): 1})
        self.fails_many(6000, coefficients, [(1, {}, (("part", 60, ()),))], (101, 1))
        # The start of the part lies beyond what is asked for.
        self.assertEqual(coefficients([PLAIN, (1, {24: 99}, (("part", 60, ()),))], (1, 24)), {(1, 24): 1})

    def test_coefficients_wrong(self):
        self.fails_in_turn(coefficients, [JACOBI, (1, 1)], [(BadSum, NO_SUMS), (BadRatio, NO_RATIOS)])

    def test_collected(self):
        self.assertEqual(self.tell(collected, []), [])
        self.assertEqual(self.tell(collected, [PLAIN, (-1, {1: 1}, ())]), [])
        self.assertEqual(self.tell(collected, [PLAIN, (3, {}, ()), PLAIN, (5, {}, (FIVE,))]),
                         [(3, {}, ()), (5, {}, (FIVE,)), (2, {1: 1}, ())])
        self.assertEqual(self.tell(collected, [(1, {2: 1, 1: 3}, ()), (1, {1: 3, 2: 1}, ())]), [(2, {1: 3, 2: 1}, ())])
        self.assertEqual(collected([(GREAT, {}, ()), (-1, {}, ())]), [(GREAT - 1, {}, ())])
        self.assertEqual(collected([(GREAT, {}, ()), (1, {}, ()), (-1, {}, ())]), [(GREAT, {}, ())])
        self.fails(BadPair, collected, [(GREAT, {}, ()), (1, {}, ())])
        self.fails(BadPair, collected, [(-GREAT, {1: 1}, ()), PLAIN, (-2, {1: 1}, ())])
        self.fails_in_turn(collected, [JACOBI], [(BadSum, NO_SUMS)])

    def test_collected_of_many(self):
        for _ in range(60):
            terms = some_sum(5)
            terms = [(CHANCE.randint(-3, 3) or 1, *term[1:]) for term in terms + terms[:3]]
            told = self.tell(collected, terms)
            self.assertEqual([key_of(term) for term in told], sorted({key_of(term) for term in told}))
            self.assertTrue(all(is_term(term) and list(term[1]) == sorted(term[1]) for term in told))
            last = min([fraction(term_start(term)) for term in terms] + [Fraction(0)]) + 9
            self.assertEqual(slow_coefficients(told, last), slow_coefficients(terms, last))


def key_of(term):
    return (tuple(sorted(term[1].items())), term[2])


class TestProducts(TurnedCase):

    def test_by_hand(self):
        self.assertEqual(self.tell(sum_times, [], JACOBI), [])
        self.assertEqual(self.tell(sum_times, [PLAIN], [PLAIN]), [(1, {1: 2}, ())])
        one = [PLAIN, (1, {2: 1}, ())]
        other = [PLAIN, (-1, {2: 1}, ())]
        self.assertEqual(self.tell(sum_times, one, other), [(1, {1: 2}, ()), (-1, {2: 2}, ())])

    def test_products_of_rows(self):
        for _ in range(40):
            one, other = some_sum(3, 1, levels=(1, 2, 4)), some_sum(3, 1, levels=(1, 2, 4))
            one = [(CHANCE.randint(1, 9), *term[1:]) for term in one]
            other = [(CHANCE.randint(1, 9), *term[1:]) for term in other]
            try:
                told = self.tell(sum_times, one, other)
            except BadPair:
                levels = [lcm(term_level(x), term_level(y)) for x in one for y in other]
                self.assertGreater(max(levels), 360)
                continue
            expected = {}
            for x in one:
                for y in other:
                    start = fraction(term_start(x)) + fraction(term_start(y))
                    for n, number in enumerate(row_times(term_row(x, 10), term_row(y, 10))):
                        expected[start + n] = expected.get(start + n, 0) + number
            if expected:
                last = min(expected) + 10
                expected = {at: number for at, number in expected.items() if number and at <= last}
                self.assertEqual(slow_coefficients(told, last), dict(sorted(expected.items())))
            else:
                self.assertEqual(told, [])

    def test_bounds(self):
        seven = [(1, {1: k}, ()) for k in range(1, 8)]
        six = [(1, {2: k}, ()) for k in range(1, 7)]
        self.fails(BadPair, sum_times, seven, six)
        self.assertEqual(len(sum_times(seven, six[:5])), 35)
        self.assertEqual(len(sum_times(seven[:5], [(1, {2: k}, ()) for k in range(1, 9)])), 40)
        self.assertEqual(len(sum_times(seven, [(1, {1: k}, ()) for k in range(1, 35)])), 40)
        self.fails(BadPair, sum_times, seven, [(1, {1: k}, ()) for k in range(1, 36)])
        self.fails(BadPair, sum_times, [(1, {1: 50}, ()), (-1, {1: 50}, ())], [(1, {1: 50}, ())])
        self.fails(BadPair, sum_times, [(10 ** 31, {}, ()), (-(10 ** 31), {}, ())], [(10 ** 30, {}, ())])
        self.fails(BadPair, sum_times, [(10 ** 30, {1: 1}, ()), (10 ** 30, {}, ())],
                   [(10 ** 30, {}, ()), (10 ** 30, {1: 1}, ())])

    def test_wrong(self):
        self.fails_in_turn(sum_times, [JACOBI, [PLAIN]], [(BadSum, NO_SUMS), (BadSum, NO_SUMS)])


class TestSlope(TurnedCase):

    def test_by_hand(self):
        self.assertEqual(self.tell(slope, {}), [])
        self.assertEqual(self.tell(slope, {1: 24}), [])
        self.assertEqual(self.tell(slope, {5: 5, 1: -1, 2: 3}),
                         [(3, {1: -1, 2: 3, 5: 5}, (("two", 2),)), (5, {1: -1, 2: 3, 5: 5}, (("two", 5),))])
        self.assertEqual(self.tell(slope, {360: -99}), [(-99, {360: -99}, (("two", 360),))])

    def test_fact(self):
        for _ in range(60):
            quotient = some_borne(CHANCE.randint(1, 360), 9)
            told = self.tell(slope, quotient)
            self.assertTrue(is_sum(told))
            start, size = fraction(start_of(quotient)), sum(quotient.values())
            row = row_of(quotient, 40)
            other = row_times(eisenstein_row(2, 40), row)
            expected = {start + n: 24 * (start + n) * row[n] - size * other[n] for n in range(41)}
            found = slow_coefficients(told, start + 40)
            self.assertEqual(found, {at: x for at, x in expected.items() if x})

    def test_wrong(self):
        self.fails_in_turn(slope, [{1: 1}], [(BadQuotient, NO_QUOTIENTS + [{19: 1, 20: 1}, {359: 1, 2: 1}])])


if __name__ == "__main__":
    unittest.main()
