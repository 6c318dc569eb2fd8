"""Ways told by divisors ([93])."""

import random
import unittest
from fractions import Fraction
from math import isqrt, lcm, prod

from etasure.divided import by_divisors, divided_count
from etasure.eisenstein import divisor_sum
from etasure.equal import first_unlike, is_zero
from etasure.errors import BadForm, BadNumber, NotDivided, NotSquare
from etasure.forms import form_row, form_term
from etasure.terms import term_level
from tests.helpers import NO_NUMBERS, Case, divisors, fraction, ratio
from tests.test_forms import NO_FORMS
from tests.test_relations import rank_of_rows

CHANCE = random.Random(93)
DIVIDED = [
    ((1, 1, 1, 1), [(8, 1), (-32, 4)]), ((1,) * 8, [(16, 1), (-32, 2), (256, 4)]), ((2, 2, 2, 2), [(8, 2), (-32, 8)]),
    ((1, 1, 2, 2), [(4, 1), (-4, 2), (8, 4), (-32, 8)]), ((1, 2, 2, 4), [(2, 1), (-2, 2), (8, 8), (-32, 16)]),
    ((1, 1, 3, 3), [(4, 1), (-8, 2), (-12, 3), (16, 4), (24, 6), (-48, 12)]), ((90,) * 4, [(8, 90), (-32, 360)]),
    ((3,) * 8, [(16, 3), (-32, 6), (256, 12)]),
]
UNDIVIDED = [(1,) * 12, (1, 1, 1, 4), (1, 1, 5, 5), (1, 1, 1, 1, 2, 2, 2, 2), (1, 1, 1, 9), (90,) * 12, (1, 4, 9, 36),
             (1,) * 6 + (2,) * 6, (1, 1, 1, 1, 1, 1, 1, 4)]
UNBORNE = [(7, 7, 90, 90), (11, 11, 11, 11, 12, 12, 12, 12)]
NOT_FOURS = [(1,), (1, 1), (1, 1, 1), (1,) * 5, (1,) * 7, (1,) * 9, (1,) * 11, (1,) * 6, (4, 9)]


def some_square(count):
    while True:
        form = tuple(sorted(CHANCE.choice([1, 1, 2, 2, 3, 4, 5, 6, 8, 9]) for _ in range(count)))
        if isqrt(prod(form)) ** 2 == prod(form) and 4 * lcm(*form) <= 150:
            return form


class TestDivided(Case):

    def check_told(self, form, told):
        power = len(form) // 2 - 1
        level = term_level(form_term(form))
        keys = [d for _, d in told]
        self.assertEqual(keys, sorted(set(keys)))
        self.assertTrue(all(level % d == 0 for d in keys))
        self.assertTrue(all(factor[0] and ratio(fraction(factor)) == factor for factor, _ in told))
        if power == 1:
            self.assertEqual(sum(fraction(factor) / d for factor, d in told), 0)
        for n, ways in enumerate(form_row(form, 400)):
            if n > 0:
                total = sum(fraction(factor) * divisor_sum(n // d, power) for factor, d in told if n % d == 0)
                self.assertEqual(total, ways)

    def check_none(self, form):
        """No sum of all the series of divisors fits."""
        power, last = len(form) // 2 - 1, 130
        found = [[divisor_sum(n // d, power) if n % d == 0 else 0 for n in range(1, last)]
                 for d in divisors(term_level(form_term(form)))]
        found.append(form_row(form, last - 1)[1:])
        self.assertEqual(rank_of_rows(found), rank_of_rows(found[:-1]) + 1)

    def test_by_hand(self):
        for form, pairs in DIVIDED:
            told = by_divisors(form)
            self.assertEqual(told, [((x, 1), d) for x, d in pairs])
            self.assertEqual(by_divisors(form=form), told)
            self.check_told(form, told)
        for form in UNDIVIDED:
            self.assertIsNone(by_divisors(form))
            if term_level(form_term(form)) < 100:
                self.check_none(form)

    def test_of_many(self):
        counts = {True: 0, False: 0}
        while min(counts.values()) < 10:
            form = some_square(CHANCE.choice([4, 4, 4, 8, 12]))
            told = by_divisors(form)
            counts[told is None] += 1
            if told is None:
                self.check_none(form)
            else:
                self.check_told(form, told)

    def test_counts(self):
        for form, pairs in DIVIDED:
            row = form_row(form, 300)
            for n in CHANCE.sample(range(1, 301), 60):
                self.assertEqual(divided_count(form, n), row[n])
            for n in (999999, 999983, 2 ** 19, 720720):
                power = len(form) // 2 - 1
                expected = sum(x * divisor_sum(n // d, power) for x, d in pairs if n % d == 0)
                self.assertEqual(divided_count(n=n, form=form), expected)
        # Each sum of four squares in the ways of Jacobi: 8 times the sum of the divisors that 4 does not divide.
        for n in (999999, 999998, 524288, 12345):
            self.assertEqual(divided_count((1, 1, 1, 1), n), 8 * sum(d for d in divisors(n) if d % 4))

    def test_of_fractions(self):
        # Where ratios are no whole numbers the ways still are.
        found = [form for form, _ in DIVIDED]
        while len(found) < 30:
            form = some_square(4)
            told = by_divisors(form)
            if told is not None:
                found.append(form)
                row = form_row(form, 60)
                self.assertEqual([divided_count(form, n) for n in range(1, 61)], row[1:])
        self.assertTrue(all(type(divided_count(form, 12)) is int for form in found))

    def test_sums_of_forms_and_series(self):
        # The term of a form stands in sums that are decided for all exponents.
        eight = [(15, form_term((1,) * 8)[1], ()), (-1, {}, (("four", 1),)), (2, {}, (("four", 2),)),
                 (-16, {}, (("four", 4),))]
        self.assertIs(is_zero(4, eight), True)
        self.assertIs(is_zero(8, [(14, *eight[0][1:]), *eight[1:]]), False)
        four = [(3, form_term((1, 1, 1, 1))[1], ()), (-1, {}, (("two", 4),))]
        self.assertIs(is_zero(4, four), True)
        for one, other in (((1, 1, 1, 1), (1, 1, 1, 2)), ((1, 1), (1, 1, 1)), ((1, 3), (1, 3)),
                           ((1, 1, 5, 5), (1, 1, 5, 6))):
            rows = form_row(one, 100), form_row(other, 100)
            found = [n for n in range(101) if rows[0][n] != rows[1][n]]
            level = lcm(term_level(form_term(one)), term_level(form_term(other)))
            self.assertEqual(first_unlike(level, [form_term(one)], [form_term(other)]),
                             (found[0], 1) if found else None)

    def test_errors(self):
        for form in UNBORNE:
            self.fails_many(360, by_divisors, form)
            self.fails_many(360, divided_count, form, 1)
            self.fails(BadNumber, divided_count, form, 0)
        for form in UNDIVIDED:
            for n in (1, 0, None):
                self.fails(NotDivided, divided_count, form, n)
        for form in ((1, 1, 1, 2), (1, 1, 1, 1, 1, 1, 1, 90), (7, 11, 13, 90), (2,) * 11 + (3,)):
            self.fails(NotSquare, by_divisors, form)
            self.fails(NotSquare, divided_count, form, 0)
        self.fails_in_turn(by_divisors, [(1, 1, 1, 1)], [(BadForm, NO_FORMS + NOT_FOURS)])
        wrong = NO_NUMBERS + [0, -1, 10 ** 6, 10 ** 40]
        self.fails_in_turn(divided_count, [(1, 1, 1, 1), 5], [(BadForm, NO_FORMS + NOT_FOURS), (BadNumber, wrong)])
        self.assertEqual(Fraction(divided_count((1, 1, 1, 1), 1)), 8)


if __name__ == "__main__":
    unittest.main()
