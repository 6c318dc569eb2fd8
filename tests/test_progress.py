"""Progressions ([80], [81], [82])."""

import random
import unittest
from fractions import Fraction
from math import gcd, lcm

from etasure.alikeness import class_bound
from etasure.errors import BadMost, BadNumber, BadPair, BadQuotient, BadStep, NotFit, TooMany
from etasure.progress import (content_of, first_not, fits, fitting, last_needed, parted, progression,
                              progression_term)
from etasure.quotients import row_of
from etasure.terms import is_term, term_level, term_row, term_start
from tests.helpers import NO_MOSTS, NO_NUMBERS, NO_QUOTIENTS, STRANGE, TurnedCase, fraction
from tests.test_classes import some_borne
from tests.test_divisible import NO_DIVISORS
from tests.test_quotients import FULL, some_quotient

CHANCE = random.Random(80)
PARTITIONS = {1: -1}
NO_STEPS = NO_NUMBERS + [0, 1, -2, 61, 10 ** 40]


def sum_of(quotient, t):
    return sum(d * r for d, r in quotient.items()) + 24 * t


def some_fitting(levels=(1, 2, 3, 4, 5, 6, 7, 8, 10), ms=(2, 3, 4, 5, 6, 7, 8, 9, 10, 12), reach=4):
    while True:
        quotient, m = some_borne(CHANCE.choice(levels), reach), CHANCE.choice(ms)
        found = [t for t in range(m) if sum_of(quotient, t) % m == 0]
        if found:
            return quotient, m, CHANCE.choice(found)


class TestProgression(TurnedCase):

    def test_by_hand(self):
        self.assertEqual(self.tell(progression, PARTITIONS, 5, 4, 3), [5, 30, 135, 490])
        self.assertEqual(self.tell(progression, PARTITIONS, 7, 5, 2), [7, 77, 490])
        self.assertEqual(self.tell(progression, {}, 60, 0, 2), [1, 0, 0])
        self.assertEqual(self.tell(progression, {}, 60, 59, 0), [0])
        self.assertEqual(self.tell(progression, {1: 24}, 2, 1, 2), [-24, -1472, -6048])

    def test_of_many(self):
        for _ in range(80):
            quotient, m = some_quotient(4, 9), CHANCE.choice([2, 3, 7, 59, 60])
            t = CHANCE.choice([0, m - 1, CHANCE.randint(0, m - 1)])
            self.assertEqual(self.tell(progression, quotient, m, t, 9), row_of(quotient, 9 * m + t)[t::m])
        self.assertEqual(progression(FULL, 2, 1, 5), row_of(FULL, 11)[1::2])

    def test_longest(self):
        self.assertEqual(len(progression({5: 1}, 2, 0, 3000)), 3001)
        self.fails_many(6000, progression, {5: 1}, 2, 1, 3000)
        self.assertEqual(len(progression({5: 1}, 60, 0, 100)), 101)
        self.assertEqual(progression({5: 1}, 60, 59, 99), progression({5: 1}, 60, 59, 99))
        self.fails_many(6000, progression, {5: 1}, 60, 1, 100)
        self.fails_many(6000, progression, {5: 1}, 3, 1, 2000)

    def test_fits(self):
        self.assertIs(self.tell(fits, PARTITIONS, 5, 4), True)
        self.assertIs(self.tell(fits, PARTITIONS, 5, 3), False)
        self.assertEqual(self.tell(fitting, PARTITIONS, 5), [4])
        self.assertEqual(self.tell(fitting, PARTITIONS, 25), [24])
        self.assertEqual(self.tell(fitting, PARTITIONS, 2), [])
        self.assertEqual(self.tell(fitting, {1: 2}, 2), [0, 1])
        self.assertEqual(self.tell(fitting, {}, 60), [0, 5, 10, 15, 20, 25, 30, 35, 40, 45, 50, 55])
        for _ in range(100):
            quotient, m = some_quotient(4, 99), CHANCE.randint(2, 60)
            expected = [t for t in range(m) if sum_of(quotient, t) % m == 0]
            self.assertEqual(self.tell(fitting, quotient, m), expected)
            for t in (0, m - 1, CHANCE.randint(0, m - 1)):
                self.assertIs(self.tell(fits, quotient, m, t), t in expected)

    def test_wrong(self):
        wrong = [(BadQuotient, NO_QUOTIENTS), (BadStep, NO_STEPS), (BadStep, NO_NUMBERS + [-1, 5, 10 ** 40])]
        self.fails_in_turn(progression, [PARTITIONS, 5, 4, 3], wrong + [(BadMost, NO_MOSTS)])
        for function in (fits, progression_term, content_of, last_needed):
            self.fails_in_turn(function, [PARTITIONS, 5, 4], wrong)
        self.fails_in_turn(fitting, [PARTITIONS, 5], wrong[:2])
        self.fails_in_turn(first_not, [PARTITIONS, 5, 4, 5], wrong)
        for function in (progression_term, content_of, last_needed):
            self.fails(NotFit, function, PARTITIONS, 5, 3)
            self.fails(NotFit, function, FULL, 7, (2 - sum_of(FULL, 0) * pow(24, -1, 7)) % 7)


class TestTerm(TurnedCase):

    def test_by_hand(self):
        self.assertEqual(self.tell(progression_term, PARTITIONS, 5, 4), (1, {1: -5}, (("part", 5, ((1, -1), (5, 5))),)))
        self.assertEqual(self.tell(progression_term, PARTITIONS, 7, 5), (1, {1: -7}, (("part", 7, ((1, -1), (7, 7))),)))
        self.assertEqual(self.tell(progression_term, {1: 24}, 2, 1), (1, {}, (("part", 2, ((1, 24),)),)))
        # {1: 1} at 5, 1: 25, x is 19, the sum of r and x even.
        self.assertEqual(self.tell(progression_term, {1: 1}, 5, 1), (1, {1: -19}, (("part", 5, ((1, 1), (5, 19))),)))
        # {1: 1, 2: 1} at 3, 0: x is 23, the sum of r and x odd.
        self.assertEqual(self.tell(progression_term, {1: 1, 2: 1}, 3, 0),
                         (1, {1: -21, 2: -1}, (("part", 3, ((1, 1), (2, 1), (3, 21), (6, 1))),)))
        # What cancels is left out: x is 2, the sum of r odd.
        self.assertEqual(self.tell(progression_term, {10: -1}, 5, 0),
                         (1, {2: -1}, (("part", 5, ()),)))

    def test_numbers_of_the_term(self):
        whole = 0
        for _ in range(150):
            quotient, m, t = some_fitting()
            try:
                term = self.tell(progression_term, quotient, m, t)
            except TooMany as error:
                self.check_too_many(quotient, m, t, error.most)
                continue
            whole += 1
            self.assertTrue(is_term(term))
            self.assertEqual(list(term[1]), sorted(term[1]))
            self.assertEqual(fraction(term_start(term)), Fraction(sum_of(quotient, t), 24 * m))
            self.assertEqual(term_row(term, 12), progression(quotient, m, t, 12))
        self.assertGreater(whole, 60)

    def told_by_hand(self, quotient, m, t):
        """The term as the document tells it, whether or not it is one."""
        x = next(x for x in range(24) if (x * m + sum_of(quotient, t)) % (24 * m) == 0)
        one, two = (x, 0) if (sum(quotient.values()) + x) % 2 == 0 else ((x - 2) % 24, 1)
        inner = dict(quotient)
        for d, r in ((m, one), (2 * m, two)):
            inner[d] = inner.get(d, 0) + r
        outer = {d: r for d, r in ((1, -one), (2, -two)) if r}
        return (1, outer, (("part", m, tuple(sorted((d, r) for d, r in inner.items() if r))),))

    def check_too_many(self, quotient, m, t, most):
        term = self.told_by_hand(quotient, m, t)
        self.assertFalse(is_term(term))
        self.assertEqual(most, 99 if any(r > 99 for _, r in term[2][0][2]) else 360)

    def test_by_the_definition(self):
        for _ in range(200):
            quotient, m, t = some_fitting(levels=range(1, 60), ms=range(2, 61), reach=99)
            try:
                self.assertEqual(progression_term(quotient, m, t), self.told_by_hand(quotient, m, t))
            except TooMany as error:
                self.check_too_many(quotient, m, t, error.most)

    def test_bounds(self):
        self.fails_many(99, progression_term, {5: 98}, 5, 0)
        self.assertEqual(progression_term({5: 95}, 5, 0), (1, {1: -1}, (("part", 5, ((5, 96),)),)))
        self.fails_many(360, progression_term, {359: 2}, 2, 1)
        self.fails_many(360, progression_term, {19: 1, 20: 1}, 3, 0)
        self.fails_many(99, progression_term, {19: 1, 20: 1, 3: 98}, 3, 0)
        for function in (content_of, last_needed):
            self.fails_many(360, function, {19: 1, 20: 1}, 3, 0)
            self.fails_many(99, function, {19: 1, 20: 1, 3: 98}, 3, 0)
        self.fails_many(360, first_not, {19: 1, 20: 1}, 3, 0, 0)


class TestContent(TurnedCase):

    def test_by_hand(self):
        for m, t, expected, last in ((5, 4, 5, 0), (7, 5, 7, 1), (11, 6, 11, 4), (25, 24, 25, 23), (13, 6, 1, 6)):
            self.assertEqual(self.tell(content_of, PARTITIONS, m, t), expected)
            self.assertEqual(self.tell(last_needed, PARTITIONS, m, t), last)
        self.assertIsNone(self.tell(first_not, PARTITIONS, 5, 4, 5))
        self.assertEqual(self.tell(first_not, PARTITIONS, 5, 4, 25), 0)
        self.assertEqual(self.tell(first_not, PARTITIONS, 7, 5, 49), 0)
        self.assertIsNone(self.tell(first_not, PARTITIONS, 11, 6, 11))
        self.assertEqual(self.tell(first_not, PARTITIONS, 13, 6, 13), 0 if 11 % 13 else None)
        # All coefficients of {2: 1} at odd places are 0.
        self.assertEqual(self.tell(content_of, {2: 6, 4: 1}, 2, 1), 0)
        self.assertIsNone(self.tell(first_not, {2: 6, 4: 1}, 2, 1, 10 ** 60))

    def test_of_many(self):
        divided = zeros = 0
        for _ in range(120):
            quotient, m, t = some_fitting(levels=(1, 2, 3, 4, 5, 6), ms=(2, 3, 4, 5, 6, 8))
            try:
                last = self.tell(last_needed, quotient, m, t)
            except TooMany:
                continue
            if m * last > 500:
                continue
            told = self.tell(content_of, quotient, m, t)
            term = progression_term(quotient, m, t)
            bound = fraction(class_bound(term_level(term), [term]))
            start = fraction(term_start(term))
            self.assertTrue(last == -1 and start > bound or last >= 0 and start + last <= bound < start + last + 1)
            numbers = progression(quotient, m, t, max(last, 0) + 24)
            self.assertEqual(told, gcd(*numbers[:last + 1]))
            self.assertEqual(told, gcd(*numbers))
            divided += told > 1
            zeros += told == 0
            for u in (1, 2, 3, 5, 7, 25, told or 1, 2 * told or 1, 10 ** 60):
                found = [n for n, x in enumerate(numbers) if x % u]
                self.assertEqual(self.tell(first_not, quotient, m, t, u), found[0] if found else None)
                if found:
                    self.assertLessEqual(found[0], last)
        self.assertGreater(divided, 10)
        self.assertGreater(zeros, 2)

    def test_too_many(self):
        # For {1: -1} at 49, 47 the numbers go up to a(49 * 96 + 47).
        self.assertEqual(last_needed(PARTITIONS, 49, 47), 96)
        self.assertEqual(content_of(PARTITIONS, 49, 47), 49)
        last = last_needed(PARTITIONS, 59, fitting(PARTITIONS, 59)[0])
        self.assertGreater(59 * last, 6000)
        self.fails_many(6000, content_of, PARTITIONS, 59, fitting(PARTITIONS, 59)[0])
        self.fails_many(6000, first_not, PARTITIONS, 59, fitting(PARTITIONS, 59)[0], 1)
        wide = {1: -24, 2: -24, 3: -24, 4: -24, 5: -24, 6: -24, 8: -24, 9: -24, 10: -24, 12: -24, 60: 96, 120: -48}
        told = last_needed(wide, 6, 0)
        self.assertGreater(told, 3000)
        self.fails_many(3000, content_of, wide, 6, 0)
        self.fails_many(3000, first_not, wide, 6, 0, 7)

    def test_wrong(self):
        for u in NO_DIVISORS:
            self.fails(BadNumber, first_not, PARTITIONS, 5, 4, u)
        self.fails(NotFit, first_not, PARTITIONS, 5, 3, 0)
        self.fails(BadStep, first_not, PARTITIONS, 5, 5, 0)
        self.fails_many(99, first_not, {5: 98}, 5, 0, 0)
        self.fails(BadNumber, first_not, PARTITIONS, 59, fitting(PARTITIONS, 59)[0], 0)


class TestParted(TurnedCase):

    def test_by_hand(self):
        five = (PARTITIONS, 5, 4)
        self.assertIsNone(self.tell(parted, five, five))
        # 95 / 120: also {1: 19} at 1 step would do; {1: -5, 5: 20} has -5 + 100 = 95 at 5, 0.
        self.assertEqual(self.tell(parted, five, ({1: -5, 5: 20}, 5, 0)), 0)
        self.assertEqual(self.tell(parted, ({5: 19}, 5, 0), ({1: -5, 5: 20}, 5, 0)), 1)
        self.assertIsNone(self.tell(parted, ({2: 2}, 2, 0), ({3: 2}, 3, 0)))
        self.assertEqual(self.tell(parted, ({24: 24}, 2, 0), ({48: 12}, 2, 0)), 12)
        self.assertIsNone(self.tell(parted, ({2: 5, 4: 3}, 2, 1), ({2: 41, 4: -15}, 2, 1)))

    def test_equal_and_unlike(self):
        counts = {True: 0, False: 0}
        for _ in range(80):
            quotient, m, t = some_fitting(levels=(1, 2, 3, 4), ms=(2, 3, 4, 5), reach=3)
            if CHANCE.random() < 0.5:
                # Each a(n) stands at k * n of the quotient at k * tau, too.
                k = CHANCE.choice([2, 3])
                other = ({k * d: r for d, r in quotient.items()}, k * m, k * t)
            else:
                other = self.near(quotient, m, t)
            one = (quotient, m, t)
            if other is None or other[1] > 60:
                continue
            try:
                told = self.tell(parted, one, other)
            except TooMany as error:
                self.assertIn(error.most, (99, 360, 3000, 6000))
                continue
            counts[told is None] += 1
            rows = progression(*one, 60), progression(*other, 60)
            expected = [n for n in range(61) if rows[0][n] != rows[1][n]]
            self.assertEqual(told, expected[0] if expected else None)
        self.assertGreater(min(counts.values()), 10)

    def near(self, quotient, m, t):
        """Another one with the same exponent for n = 0."""
        for _ in range(200):
            other = some_borne(CHANCE.choice([1, 2, 4, 6]), 5)
            step = CHANCE.choice([2, 3, 4, 5])
            wanted = Fraction(sum_of(quotient, t), m) * step - sum_of(other, 0)
            if wanted.denominator == 1 and wanted % 24 == 0 and 0 <= wanted // 24 < step:
                return (other, step, int(wanted) // 24)
        return None

    def test_bad_pairs(self):
        five = (PARTITIONS, 5, 4)
        wrong = [[PARTITIONS, 5, 4], (PARTITIONS, 5), (PARTITIONS, 5, 4, 1), (PARTITIONS, 5, 3), ({1: 0}, 5, 4),
                 (PARTITIONS, 5, 5), (PARTITIONS, 1, 0), (PARTITIONS, 61, 0), (PARTITIONS, 5, True),
                 (PARTITIONS, 5, -1), ((1, -1), 5, 4), (PARTITIONS, 5.0, 4), (PARTITIONS, 7, 5), ({1: 1}, 5, 1),
                 ({1: 24}, 2, 2)]
        for other in wrong + STRANGE:
            self.fails(BadPair, parted, five, other)
            self.fails(BadPair, parted, other, five)
        self.fails(BadPair, parted, (PARTITIONS, 5, 3), (PARTITIONS, 5, 3))
        self.fails(BadPair, parted, ({1: 24}, 2, 2), ({1: 24}, 2, 2))

    def test_too_many(self):
        wide = ({5: 98}, 5, 0)
        self.fails_many(99, parted, wide, wide)
        deep = ({19: 1, 20: 1}, 3, 0)
        self.fails_many(360, parted, deep, deep)
        # Both have a level, but not together.
        one, other = ({16: 3}, 2, 0), ({9: 2, 3: 2}, 3, 0)
        self.assertEqual(sum_of(one[0], 0) * 3, sum_of(other[0], 0) * 2 + 96)
        pairs = [(({7: 2, 1: 10}, 2, 0), ({27: 1, 9: 1}, 3, 0)), (({32: 3}, 2, 0), ({9: 16}, 3, 0))]
        met = 0
        for one, other in pairs:
            level = lcm(term_level(progression_term(*one)), term_level(progression_term(*other)))
            if Fraction(sum_of(one[0], 0), 2) == Fraction(sum_of(other[0], 0), 3) and level > 360:
                met += 1
                self.fails_many(360, parted, one, other)
        self.assertGreater(met, 0)
        full = ({8: 24, 45: 24}, 2, 0)
        self.assertEqual(term_level(progression_term(*full)), 360)
        self.assertIsNone(parted(full, full))
        t = fitting(PARTITIONS, 59)[0]
        self.fails_many(6000, parted, (PARTITIONS, 59, t), (PARTITIONS, 59, t))


if __name__ == "__main__":
    unittest.main()
