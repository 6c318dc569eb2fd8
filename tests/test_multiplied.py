"""Product forms ([91])."""

import random
import unittest
from fractions import Fraction
from math import gcd

from etasure.errors import BadLevel, BadNumber, BadSum, NotCuspidal, NotProduct
from etasure.hecke import hecke_row, reach_of, sign_of
from etasure.multiplied import coefficient_at, first_broken, is_cuspidal
from etasure.roots import kronecker
from etasure.terms import term_least, term_twice
from tests.helpers import NO_LEVELS, NO_NUMBERS, NO_SUMS, TurnedCase, divisors, fraction
from tests.identities_at_hand import MULTIPLIED
from tests.test_hecke import CROOKED, DELTA
from tests.test_relations import some_class
from tests.test_sums import JACOBI, slow_coefficients

CHANCE = random.Random(91)
E4, E6 = ("four", 1), ("six", 1)
# Product forms that need more than a quotient: by a part (its form is -8 times itself at 2), and weights with one form.
BY_FOUR = (2, [(1, {}, (("part", 4, ((1, 8), (2, 8))),)), (-63, {1: 8, 2: 8}, ())])
MORE = [(1, [(1, {1: 24}, pieces)]) for pieces in ((), (E4,), (E6,), (E4, E4), (E4, E6), (E4, E4, E6))] + [
    BY_FOUR, (1, [(3, {1: 24}, ()), (-2, {1: 24}, ())]),
]
# Cuspidal ones that are none, with their least pairs.
BROKEN = [
    (1, [(1, {1: 48}, ())], (1, 1)), (1, [(2, {1: 24}, ())], (1, 1)), (1, [(-1, {1: 24}, ())], (1, 1)),
    (1, [(1, {1: 24}, ()), (-1, {1: 24}, ())], (1, 1)), (1, [(1, {1: 24}, (E4, E4, E4))], (2, 2)),
    (1, [(1, {1: 24}, (E6, E6))], (2, 2)), (2, [(1, {1: 24}, ()), (1, {2: 24}, ())], (2, 2)),
    # Numbers that multiply at level 1 do not at a level that has more primes.
    (2, [(1, {1: 24}, ())], (2, 2)), (3, [(1, {1: 24}, ())], (3, 3)), (3, [(1, {1: 24}, ()), (5, {3: 24}, ())], (3, 3)),
    (11, [(1, {1: 4, 11: 4}, ())], (1, 1)), (22, [(1, {1: 2, 11: 2}, ()), (1, {2: 2, 22: 2}, ())], (2, 2)),
    (6, [(1, {1: 6, 3: 6}, ()), (1, {2: 6, 6: 6}, ())], (2, 2)),
]
NOT_CUSPIDAL = [
    (1, [(1, {}, (E4,))]), (4, JACOBI), (1, [(1, {}, (E4, E4, E4)), (-1, {}, (E6, E6))]), (5, [(1, {1: -1, 5: 5}, ())]),
    (3, [(1, {}, (("two", 3),))]), (4, [(1, {1: -4, 2: 10, 4: -4}, ())]),
    (2, [(1, {1: 24}, ()), (1, {1: -8, 2: 16}, (E4, E4))]),
]


def numbers_of(terms, last):
    found = slow_coefficients(terms, Fraction(last))
    return [found.get(Fraction(n), 0) for n in range(last + 1)]


def chi(level, terms, d):
    return kronecker(sign_of(level, terms), d) if gcd(level, d) == 1 else 0


class TestCuspidal(TurnedCase):

    def test_by_hand(self):
        for level, terms in MORE + [(level, [(1, quotient, ())]) for quotient, level, _ in MULTIPLIED]:
            self.assertIs(self.tell(is_cuspidal, level, terms), True)
        for level, terms, _ in BROKEN:
            self.assertIs(self.tell(is_cuspidal, level, terms), True)
        for level, terms in NOT_CUSPIDAL + CROOKED:
            self.assertIs(self.tell(is_cuspidal, level, terms), False)
        for level, terms in NOT_CUSPIDAL:
            self.assertIsNotNone(sign_of(level, terms))

    def test_by_the_sentence(self):
        counts = {True: 0, False: 0}
        while min(counts.values()) < 6:
            level, terms = some_class(3)
            expected = sign_of(level, terms) is not None and all(
                fraction(term_least(term, c)) > 0 for term in terms for c in divisors(level))
            counts[expected] += 1
            self.assertIs(self.tell(is_cuspidal, level, terms), expected)

    def test_wrong(self):
        self.fails_in_turn(is_cuspidal, [1, DELTA], [(BadLevel, NO_LEVELS), (BadSum, NO_SUMS)])
        self.fails(BadLevel, is_cuspidal, 2, JACOBI)


class TestBroken(TurnedCase):

    def test_product_forms(self):
        for level, terms in MORE + [(level, [(1, quotient, ())]) for quotient, level, _ in MULTIPLIED]:
            if reach_of(level, terms) ** 2 > 3000:
                self.fails_many(3000, first_broken, level, terms)
                continue
            self.assertIsNone(self.tell(first_broken, level, terms))
            self.check_multiplied(level, terms, 36)

    def check_multiplied(self, level, terms, reach):
        """The coefficients multiply as the definition says."""
        numbers, k = numbers_of(terms, reach * reach), term_twice(terms[0]) // 2
        self.assertEqual(numbers[1], 1)
        for m in range(1, reach + 1):
            for n in range(m, reach + 1):
                total = sum(chi(level, terms, d) * d ** (k - 1) * numbers[m * n // (d * d)]
                            for d in divisors(gcd(m, n)))
                self.assertEqual(total, numbers[m] * numbers[n])

    def test_broken_ones(self):
        for level, terms, pair in BROKEN:
            self.assertEqual(self.tell(first_broken, level, terms), pair)
            self.check_pair(level, terms, pair)

    def check_pair(self, level, terms, pair):
        """The pair is the least one, by the rows of the operators."""
        reach = reach_of(level, terms)
        numbers = numbers_of(terms, max(1, reach))
        if numbers[1] != 1:
            self.assertEqual(pair, (1, 1))
            return
        found = []
        for p in range(2, reach + 1):
            if all(p % k for k in range(2, p)):
                row = hecke_row(level, terms, p, reach)
                found.extend([(p, n) for n in range(1, reach + 1) if row[n] != numbers[p] * numbers[n]])
        self.assertEqual(pair, found[0] if found else None)

    def test_of_many(self):
        counts = {None: 0, (1, 1): 0, "other": 0}
        while min(counts.values()) < 6:
            level, quotient, _ = CHANCE.choice([(level, quotient, sign) for quotient, level,
                                                sign in MULTIPLIED if level < 12])
            terms = [(1, quotient, ())]
            for _ in range(CHANCE.randint(0, 2)):
                # The same in q ** k, at a level k times as great.
                k = CHANCE.choice([1, 2, 3])
                terms.append((CHANCE.choice([-1, 1, 2]), {k * d: r for d, r in quotient.items()}, ()))
                level = level * k if level % (k * max(quotient)) else level
            if not is_cuspidal(level, terms) or reach_of(level, terms) ** 2 > 500:
                continue
            told = self.tell(first_broken, level, terms)
            counts[told if told in counts else "other"] += 1
            self.check_pair(level, terms, told)

    def test_zero(self):
        terms = [(1, {1: 8, 2: 8}, ()), (-1, {1: 8, 2: 8}, ())]
        self.assertEqual(reach_of(2, terms), 2)
        self.assertEqual(self.tell(first_broken, 2, terms), (1, 1))

    def test_too_many(self):
        wide = [(1, {1: 24}, (E4, E4, E4, E4, E4, E4))]
        self.assertEqual(reach_of(16, wide), 72)
        self.fails_many(3000, first_broken, 16, wide)
        self.assertEqual(reach_of(12, wide), 72)
        self.assertEqual(reach_of(8, [(1, {1: 24}, (E4,) * 6)]), 36)
        self.assertIsNotNone(first_broken(8, wide))
        # 54 times itself is below 3000, 55 times itself above it.
        just = [(1, {1: 48}, (E6,) * 5)]
        self.assertEqual(reach_of(11, just), 54)
        self.assertEqual(first_broken(11, just), (1, 1))
        above = [(1, {1: 24}, (E4, E6))]
        self.assertEqual(reach_of(29, above), 55)
        self.fails_many(3000, first_broken, 29, above)
        long = [(1, {1: 24}, (("part", 60, ((1, 24),)),))]
        self.assertIs(is_cuspidal(30, long), True)
        self.fails_many(3000, first_broken, 30, long)
        fewer = [(1, {}, (("part", 60, ((1, 24),)),))]
        self.assertEqual(reach_of(30, fewer), 72)

    def test_rows_of_parts(self):
        # The part of a part is needed up to 60 times reach * reach.
        terms = [(1, {}, (("part", 8, ((1, 24),)),))]
        self.assertEqual(reach_of(2, terms), 3)
        self.assertEqual(first_broken(2, terms), (1, 1))
        terms = [(1, {}, (("part", 16, ((1, 24),)),))]
        self.assertEqual(reach_of(16, terms), 24)
        self.assertIs(is_cuspidal(16, terms), True)
        self.fails_many(6000, first_broken, 16, terms)

    def test_wrong(self):
        self.fails_in_turn(first_broken, [1, DELTA], [(BadLevel, NO_LEVELS), (BadSum, NO_SUMS)])
        self.fails(BadLevel, first_broken, 2, JACOBI)
        for level, terms in NOT_CUSPIDAL + CROOKED:
            self.fails(NotCuspidal, first_broken, level, terms)


class TestCoefficientAt(TurnedCase):

    def test_by_hand(self):
        self.assertEqual(self.tell(coefficient_at, 1, DELTA, 6), -24 * 252)
        self.assertEqual(self.tell(coefficient_at, 1, DELTA, 1), 1)
        self.assertEqual(self.tell(coefficient_at, 1, DELTA, 4), -1472)
        # The coefficient at 10 ** 40, by those at 2 ** 40 and 5 ** 40.
        told = []
        for p, first in ((2, -24), (5, 4830)):
            before, now = 1, first
            for _ in range(39):
                before, now = now, first * now - p ** 11 * before
            told.append(now)
        self.assertEqual(self.tell(coefficient_at, 1, DELTA, 10 ** 40), told[0] * told[1])

    def test_against_the_coefficients(self):
        for level, terms in MORE + [(level, [(1, quotient, ())]) for quotient, level, _ in MULTIPLIED]:
            if reach_of(level, terms) ** 2 > 3000:
                self.fails_many(3000, coefficient_at, level, terms, 1)
                continue
            numbers = numbers_of(terms, 300)
            for n in [*range(1, 30), 64, 81, 125, 144, 256, 289, 300, CHANCE.randint(30, 300)]:
                self.assertEqual(coefficient_at(level, terms, n), numbers[n])

    def test_great_numbers(self):
        for _ in range(25):
            quotient, level, _ = CHANCE.choice(MULTIPLIED)
            terms = [(1, quotient, ())]
            primes = [CHANCE.choice([2, 3, 5, 7, 11, 13, 23, 97, 101]) for _ in range(60)]
            n, m = 1, 1
            for p in primes:
                if n * p <= 10 ** 40:
                    n *= p
                elif m * p <= 10 ** 12:
                    m *= p
            self.assertGreater(n, 10 ** 37)
            told = self.tell(coefficient_at, level, terms, n)
            # Split into two numbers, it multiplies with all their common divisors.
            half = 1
            for p in primes[::2]:
                if n % (half * p) == 0:
                    half *= p
            k, rest = term_twice(terms[0]) // 2, n // half
            total = 0
            for d in divisors_of_both(half, rest):
                total += chi(level, terms, d) * d ** (k - 1) * coefficient_at(level, terms,
                                                                              n // (d * d)) if d > 1 else 0
            self.assertEqual(told, coefficient_at(level, terms, half) * coefficient_at(level, terms, rest) - total)

    def test_primes_near_the_bound(self):
        numbers = numbers_of(DELTA, 3000)
        for n in (2999, 2971, 2963):
            self.assertEqual(self.tell(coefficient_at, 1, DELTA, n), numbers[n])
        self.assertEqual(coefficient_at(1, DELTA, 2999 ** 2), numbers[2999] ** 2 - 2999 ** 11)
        for n in (3001, 3011, 2 * 3001, 3001 ** 11, 2 ** 100 * 10007, 10 ** 40 - 1):
            self.fails_many(3000, coefficient_at, 1, DELTA, n)
        level, terms = BY_FOUR
        numbers = numbers_of([(1, {1: 8, 2: 8}, ())], 1500)
        self.assertEqual(coefficient_at(level, terms, 1499), numbers[1499])
        self.assertEqual(coefficient_at(level, terms, 1499 * 4), numbers[1499] * 64)
        for n in (1511, 1511 * 2, 2999):
            self.fails_many(6000, coefficient_at, level, terms, n)
        self.fails_many(3000, coefficient_at, level, terms, 1511 * 3001)

    def test_not_a_product_form(self):
        for level, terms, pair in BROKEN:
            if pair is not None:
                for n in (1, 7, 3001):
                    self.fails(NotProduct, coefficient_at, level, terms, n)

    def test_wrong(self):
        wrong = NO_NUMBERS + [0, -1, 10 ** 40 + 1, 10 ** 50]
        self.fails_in_turn(coefficient_at, [1, DELTA, 5],
                           [(BadLevel, NO_LEVELS), (BadSum, NO_SUMS), (BadNumber, wrong)])
        self.fails(BadLevel, coefficient_at, 2, JACOBI, 0)
        for level, terms in NOT_CUSPIDAL + CROOKED:
            self.fails(NotCuspidal, coefficient_at, level, terms, 0)
        self.fails(BadNumber, coefficient_at, *BROKEN[0][:2], 0)
        wide = [(1, {1: 24}, (E4,) * 6)]
        self.fails(BadNumber, coefficient_at, 16, wide, 0)
        self.fails_many(3000, coefficient_at, 16, wide, 1)


def divisors_of_both(one, other):
    """The common divisors, told by small primes alone."""
    told = [1]
    for p in (2, 3, 5, 7, 11, 13, 23, 97, 101):
        times = 0
        while one % p ** (times + 1) == 0 and other % p ** (times + 1) == 0:
            times += 1
        told = [d * p ** k for d in told for k in range(times + 1)]
    return told


if __name__ == "__main__":
    unittest.main()
