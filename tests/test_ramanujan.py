"""Identities of Ramanujan's kind ([83])."""

import random
import unittest
from fractions import Fraction

from etasure.alikeness import same_class
from etasure.errors import BadQuotient, BadStep, NotFit, TooMany
from etasure.lattice import quotients_above
from etasure.orders import order_at
from etasure.progress import last_needed, progression, progression_term
from etasure.quotients import pairs_of
from etasure.ramanujan import is_spelling, spelled
from etasure.terms import term_least, term_level, term_start, term_twice
from tests.helpers import NO_NUMBERS, NO_QUOTIENTS, NO_RATIOS, STRANGE, Stubborn, TurnedCase, divisors, fraction, ratio
from tests.test_progress import NO_STEPS, PARTITIONS, some_fitting
from tests.test_relations import rank_of_rows
from tests.test_sums import JACOBI, slow_coefficients

CHANCE = random.Random(83)
FIVE = [((5, 1), {1: -6, 5: 5})]
SEVEN = [((49, 1), {1: -8, 7: 7}), ((7, 1), {1: -4, 7: 3})]
# More than 2000 quotients; a bound too far away; a row beyond q ** 6000.
TOO_MANY = {2000: ({1: -2, 2: 1}, 12, 0), 3000: ({1: -90, 59: 60}, 59, 48), 6000: (PARTITIONS, 59, 32)}
# Progressions with and without spellings.
KNOWN = [(PARTITIONS, 5, 4), (PARTITIONS, 7, 5), (PARTITIONS, 11, 6), (PARTITIONS, 13, 6), (PARTITIONS, 25, 24),
         ({1: 24}, 2, 0), ({1: 24}, 3, 1), ({1: 24}, 5, 4), ({1: -2, 2: 1}, 3, 0), ({1: -2, 2: 1}, 7, 0),
         ({1: 2, 2: -1}, 4, 1), ({1: -1, 2: 1}, 7, 2), ({1: 1}, 5, 1), ({1: 3}, 3, 0), ({1: -1, 3: 1}, 5, 2),
         ({1: 2, 11: 2}, 2, 0), ({1: 2, 11: 2}, 2, 1), ({1: 2, 11: 2}, 3, 1), ({1: -2}, 7, 3), ({2: -1}, 5, 3),
         ({2: 3}, 5, 1), ({2: 1}, 2, 1), ({1: -1, 4: 1}, 3, 1), ({1: 1, 3: 1}, 7, 1)]


def series_of(spelling, last):
    """The coefficients of what a spelling stands for, up to the exponent last."""
    found = {}
    for factor, quotient in spelling:
        for at, x in slow_coefficients([(1, quotient, ())], last).items():
            found[at] = found.get(at, 0) + fraction(factor) * x
    return {at: x for at, x in found.items() if x}


def numbers_of(quotient, m, t, last):
    """The numbers of the progression up to the exponent last, by exponents."""
    start = fraction(term_start(progression_term(quotient, m, t)))
    numbers = progression(quotient, m, t, max(0, int(last - start)))
    return {start + n: x for n, x in enumerate(numbers) if x and start + n <= last}


def candidates(quotient, m, t):
    """All quotients by which the document lets spelled tell the progression."""
    term = progression_term(quotient, m, t)
    level = term_level(term)
    lows = {c: term_least(term, c) for c in divisors(level)}
    lows[level] = ratio(max(fraction(lows[level]), fraction(term_start(term))))
    return [found for found in quotients_above(level, term_twice(term), lows)
            if same_class(level, (1, found, ()), term)]


class TestSpelled(TurnedCase):

    def test_facts(self):
        self.assertEqual(self.tell(spelled, PARTITIONS, 5, 4), FIVE)
        self.assertEqual(self.tell(spelled, PARTITIONS, 7, 5), SEVEN)
        self.assertIsNone(self.tell(spelled, PARTITIONS, 11, 6))
        self.assertEqual(self.tell(spelled, {1: 24}, 2, 1), [((-24, 1), {1: 24}), ((-2048, 1), {2: 24})])
        self.assertEqual(self.tell(spelled, {2: 1}, 2, 1), [])
        # Zuckerman's, for 13.
        thirteen = self.tell(spelled, PARTITIONS, 13, 6)
        self.assertEqual([fraction(factor) for factor, _ in thirteen],
                         [13 ** 5, 13 ** 5, 78 * 13 ** 3, 20 * 13 ** 3, 38 * 13 ** 2, 36 * 13, 11])

    def check_spelling(self, quotient, m, t, told):
        term = progression_term(quotient, m, t)
        level, start = term_level(term), fraction(term_start(term))
        keys = [pairs_of(found) for _, found in told]
        self.assertEqual(keys, sorted(keys))
        self.assertEqual(len(keys), len(set(keys)))
        for factor, found in told:
            self.assertEqual(ratio(fraction(factor)), factor)
            self.assertNotEqual(factor[0], 0)
            self.assertEqual(list(found), sorted(found))
            self.assertTrue(same_class(level, (1, found, ()), term))
            for c in divisors(level):
                self.assertGreaterEqual(fraction(order_at(found, c)), fraction(term_least(term, c)))
            self.assertGreaterEqual(fraction(order_at(found, level)), start)
        last = start + max(0, last_needed(quotient, m, t)) + 14
        self.assertEqual(series_of(told, last), numbers_of(quotient, m, t, last))
        self.assertIs(self.tell(is_spelling, quotient, m, t, told), True)

    def check_none(self, quotient, m, t):
        """The numbers of the progression are not a sum of ratios times all quotients that are let."""
        start = fraction(term_start(progression_term(quotient, m, t)))
        last = start + last_needed(quotient, m, t) + 5
        found = [series_of([((1, 1), candidate)], last) for candidate in candidates(quotient, m, t)]
        found.append(numbers_of(quotient, m, t, last))
        places = sorted({at for one in found for at in one})
        rows = [[one.get(at, 0) for at in places] for one in found]
        self.assertEqual(rank_of_rows(rows), rank_of_rows(rows[:-1]) + 1)

    def test_known(self):
        for quotient, m, t in KNOWN:
            told = self.tell(spelled, quotient, m, t)
            if told is None:
                self.check_none(quotient, m, t)
            else:
                self.check_spelling(quotient, m, t, told)

    def test_of_many(self):
        counts = {True: 0, False: 0}
        while min(counts.values()) < 6:
            quotient, m, t = some_fitting(levels=(1, 2, 3, 5, 7), ms=(2, 3, 5, 7), reach=3)
            try:
                if last_needed(quotient, m, t) > 40:
                    continue
                told = spelled(quotient, m, t)
            except TooMany as error:
                self.assertIn(error.most, (360, 2000))
                continue
            counts[told is None] += 1
            if told is None:
                self.check_none(quotient, m, t)
            else:
                self.check_spelling(quotient, m, t, told)

    def test_too_many(self):
        self.fails_many(99, spelled, {5: 98}, 5, 0)
        self.fails_many(360, spelled, {19: 1, 20: 1}, 3, 0)
        for most, (quotient, m, t) in TOO_MANY.items():
            self.fails_many(most, spelled, quotient, m, t)

    def test_wrong(self):
        wrong = [(BadQuotient, NO_QUOTIENTS), (BadStep, NO_STEPS), (BadStep, NO_NUMBERS + [-1, 5, 10 ** 40])]
        self.fails_in_turn(spelled, [PARTITIONS, 5, 4], wrong)
        self.fails_in_turn(is_spelling, [PARTITIONS, 5, 4, FIVE], wrong)
        self.fails(NotFit, spelled, PARTITIONS, 5, 3)
        self.fails(NotFit, is_spelling, PARTITIONS, 5, 3, None)


class TestIsSpelling(TurnedCase):

    def test_bent(self):
        for quotient, m, t, told in ((PARTITIONS, 5, 4, FIVE), (PARTITIONS, 7, 5, SEVEN),
                                     ({1: 24}, 2, 1, spelled({1: 24}, 2, 1))):
            self.assertIs(self.tell(is_spelling, quotient, m, t, told), True)
            self.assertIs(is_spelling(quotient, m, t, told[1:]), False)
            self.assertIs(is_spelling(quotient, m, t, [*told, told[-1]]), False)
            if len(told) > 1:
                self.assertIs(self.tell(is_spelling, quotient, m, t, told[::-1]), False)
            for at, (factor, found) in enumerate(told):
                for other in ((factor[0] + 1, factor[1]), (-factor[0], factor[1]), (0, 1), (2 * factor[0], 2),
                              (factor[0], 1009)):
                    bent = [*told[:at], (other, found), *told[at + 1:]]
                    self.assertIs(self.tell(is_spelling, quotient, m, t, bent), False)
                for d in (1, 2, m):
                    changed = {**found, d: found.get(d, 0) + 24}
                    bent = sorted([*told[:at], (factor, changed), *told[at + 1:]], key=lambda pair: pairs_of(pair[1]))
                    self.assertIs(self.tell(is_spelling, quotient, m, t, bent), False)

    def test_other_weights_and_classes(self):
        jacobi = [(ratio(x), quotient) for x, quotient, _ in JACOBI]
        # Jacobi's sum in q ** 5, too; its weight and class are others.
        more = [(factor, {5 * d: r for d, r in quotient.items()}) for factor, quotient in jacobi]
        met = 0
        for quotient, m, t in (({1: 24}, 2, 0), ({1: 2, 2: -1}, 5, 0), ({2: -1}, 5, 3), ({1: -2, 2: 1}, 3, 0),
                               ({2: 1}, 2, 1)):
            told = spelled(quotient, m, t)
            level = term_level(progression_term(quotient, m, t))
            for zero in (jacobi, more, jacobi + more, [((x, 7 * y), q) for (x, y), q in jacobi]):
                if any(level % d for _, found in zero for d in found):
                    continue
                both = {pairs_of(found): fraction(factor) for factor, found in told}
                for factor, found in zero:
                    both[pairs_of(found)] = both.get(pairs_of(found), 0) + fraction(factor)
                pairs = [(ratio(both[key]), dict(key)) for key in sorted(both) if both[key]]
                met += 1
                self.assertIs(self.tell(is_spelling, quotient, m, t, pairs), True)
                self.assertIs(is_spelling(quotient, m, t, pairs[1:]), False)
        self.assertGreater(met, 12)

    def test_by_others_than_those_told(self):
        # Jacobi's relation times a quotient makes one spelling of the other.
        quotient, m, t = {4: 1}, 2, 1
        self.assertEqual(spelled(quotient, m, t), [])
        base = {1: 2, 2: -1}
        zero = []
        for x, found, _ in JACOBI:
            joined = {d: base.get(d, 0) + found.get(d, 0) for d in (1, 2, 4)}
            zero.append((ratio(x), {d: r for d, r in joined.items() if r}))
        zero = sorted(zero, key=lambda pair: pairs_of(pair[1]))
        self.assertIs(is_spelling(quotient, m, t, zero), True)
        self.assertIs(is_spelling(quotient, m, t, zero[:2]), False)

    def test_quotients_of_other_levels(self):
        # 5 * {1: -6, 5: 5} is told at level 5 alone.
        self.assertIs(is_spelling(PARTITIONS, 5, 4, [((5, 1), {1: -6, 5: 5}), ((1, 1), {2: 1})]), False)
        self.assertIs(is_spelling({2: 1}, 2, 1, []), True)
        self.assertIs(is_spelling({2: 1}, 2, 1, ()), True)

    def test_of_any_value(self):
        self.judges(is_spelling, [FIVE, tuple(FIVE)], [[[(5, 1), {1: -6, 5: 5}]], [((5, 1), ((1, -6), (5, 5)))],
                                                       FIVE * 2],
                    PARTITIONS, 5, 4)
        for wrong in NO_RATIOS:
            self.assertIs(is_spelling(PARTITIONS, 5, 4, [(wrong, {1: -6, 5: 5})]), False)
        for wrong in NO_QUOTIENTS:
            self.assertIs(is_spelling(PARTITIONS, 5, 4, [((5, 1), wrong)]), False)
        for thing in (FIVE[0], [FIVE], [(*FIVE[0], 1)], [FIVE[0][:1]], {1: FIVE[0]}, [FIVE[0], Stubborn()], {"a": 1}):
            self.assertIs(is_spelling(PARTITIONS, 5, 4, thing), False)
        for thing in STRANGE:
            self.assertIs(is_spelling(PARTITIONS, 7, 5, thing), False)
        great = [((5 * 10 ** 90, 10 ** 90 + 1), {1: -6, 5: 5})]
        self.assertIs(is_spelling(PARTITIONS, 5, 4, great), False)

    def test_many_pairs(self):
        told = spelled(PARTITIONS, 49, 47)
        self.assertEqual(len(told), 80)
        self.assertIs(is_spelling(PARTITIONS, 49, 47, told), True)
        self.assertEqual(series_of(told, Fraction(23, 24) + 5), numbers_of(PARTITIONS, 49, 47, Fraction(23, 24) + 5))

    def test_too_many(self):
        self.fails_many(99, is_spelling, {5: 98}, 5, 0, None)
        self.fails_many(360, is_spelling, {19: 1, 20: 1}, 3, 0, None)
        self.fails_many(6000, is_spelling, *TOO_MANY[6000], [])
        self.fails_many(3000, is_spelling, *TOO_MANY[3000], [])
        self.assertIs(is_spelling(*TOO_MANY[6000], None), False)
        self.assertIs(is_spelling(*TOO_MANY[2000], [((1, 1), {1: 1})]), False)
        far = [((1, 1), {1: -99, 59: 99}), ((1, 1), {1: 99, 59: -99})]
        self.fails_many(6000, is_spelling, *TOO_MANY[6000], far)


if __name__ == "__main__":
    unittest.main()
