"""Quotients ([30], [31], [32])."""

import random
import unittest
from collections import OrderedDict
from fractions import Fraction
from math import lcm

from etasure.errors import BadMost, BadNumber, BadQuotient
from etasure.quotients import (is_quotient, joined, least_level, pairs_of, raised, row_of, spread_out, start_of,
                               weight_of)
from etasure.rows import row_power, row_section, row_spread, row_times
from tests.helpers import NO_MOSTS, NO_NUMBERS, NO_QUOTIENTS, Case

CHANCE = random.Random(30)
FULL = {d: (-99 if d % 2 else 99) for d in range(1, 361)}


def some_quotient(count=4, reach=9, factors=range(1, 361)):
    chosen = CHANCE.sample(list(factors), CHANCE.randint(0, min(count, len(factors))))
    return {d: CHANCE.choice([-1, 1]) * CHANCE.randint(1, reach) for d in chosen}


def turned(quotient):
    """The same with its keys in another sequence."""
    return {d: quotient[d] for d in reversed(list(quotient))}


def slow_row(quotient, most):
    row = [1] + [0] * most
    for d, r in quotient.items():
        for n in range(d, most + 1, d):
            for _ in range(abs(r)):
                places = range(most, n - 1, -1) if r > 0 else range(n, most + 1)
                for place in places:
                    row[place] += -row[place - n] if r > 0 else row[place - n]
    return row


class QuotientCase(Case):

    def tell_turned(self, function, *arguments):
        """As tell, and the sequence of keys must have no meaning; a quotient that is told has ascending keys."""
        told = self.tell(function, *arguments)
        changed = [turned(argument) if isinstance(argument, dict) else argument for argument in arguments]
        self.assert_same(function(*changed), told)
        if isinstance(told, dict):
            self.assertIs(type(told), dict)
            self.assertEqual(list(told), sorted(told))
            self.assertFalse(any(told is argument for argument in arguments))
        return told


class TestJudgedAndTold(QuotientCase):

    def test_is_quotient(self):
        right = [{}, {1: 1}, {1: -1}, {360: 99}, {360: -99, 1: 99}, FULL, {5: 3, 2: 1}, OrderedDict([(2, 1), (1, 5)])]
        self.judges(is_quotient, right, NO_QUOTIENTS)
        self.assertIs(is_quotient(thing={}), True)

    def test_bounds(self):
        for d in (0, 1, 360, 361):
            for r in (-100, -99, -1, 0, 1, 99, 100):
                self.assertIs(is_quotient({d: r}), 1 <= d <= 360 and 1 <= abs(r) <= 99)

    def test_by_hand(self):
        self.assertEqual(self.tell_turned(pairs_of, {5: 5, 1: -1}), ((1, -1), (5, 5)))
        self.assertEqual(self.tell_turned(pairs_of, {}), ())
        self.assertEqual(self.tell_turned(weight_of, {5: 5, 1: -1}), (2, 1))
        self.assertEqual(self.tell_turned(weight_of, {1: 1}), (1, 2))
        self.assertEqual(self.tell_turned(weight_of, {1: 1, 2: -2}), (-1, 2))
        self.assertEqual(self.tell_turned(weight_of, {}), (0, 1))
        self.assertEqual(self.tell_turned(start_of, {1: -1}), (-1, 24))
        self.assertEqual(self.tell_turned(start_of, {1: -1, 5: 5}), (1, 1))
        self.assertEqual(self.tell_turned(start_of, {1: 2, 2: -1}), (0, 1))
        self.assertEqual(self.tell_turned(start_of, {}), (0, 1))
        self.assertEqual(self.tell_turned(least_level, {}), 1)
        self.assertEqual(self.tell_turned(least_level, {4: 1, 6: -1}), 12)
        self.assertEqual(self.tell_turned(least_level, {360: 1}), 360)

    def test_of_many(self):
        for quotient in [some_quotient(6, 99) for _ in range(200)] + [FULL]:
            self.assertEqual(self.tell_turned(pairs_of, quotient), tuple(sorted(quotient.items())))
            for told, worth in ((self.tell_turned(weight_of, quotient), Fraction(sum(quotient.values()), 2)),
                                (self.tell_turned(start_of, quotient),
                                 Fraction(sum(d * r for d, r in quotient.items()), 24))):
                self.assertEqual(told, (worth.numerator, worth.denominator))
            level = lcm(*quotient)
            if level <= 360:
                self.assertEqual(self.tell_turned(least_level, quotient), level)
            else:
                self.fails_many(360, least_level, quotient)

    def test_least_level_bound(self):
        self.assertEqual(least_level({8: 1, 9: 1, 5: -1}), 360)
        self.fails_many(360, least_level, {19: 1, 20: 1})
        self.fails_many(360, least_level, {359: 1, 2: 1})
        self.fails_many(360, least_level, FULL)

    def test_wrong(self):
        for function in (pairs_of, weight_of, start_of, least_level):
            self.fails_in_turn(function, [{1: 1}], [(BadQuotient, NO_QUOTIENTS)])


class TestProducts(QuotientCase):

    def test_joined(self):
        self.assertEqual(self.tell_turned(joined, {5: 2, 1: 1}, {2: 3, 5: -1}), {1: 1, 2: 3, 5: 1})
        self.assertEqual(self.tell_turned(joined, {1: 7, 3: 1}, {1: -7, 2: 1}), {2: 1, 3: 1})
        self.assertEqual(self.tell_turned(joined, {}, {}), {})
        self.assertEqual(self.tell_turned(joined, {2: 1}, {}), {2: 1})
        for _ in range(200):
            one, other = some_quotient(5, 50, range(1, 9)), some_quotient(5, 49, range(1, 9))
            sums = {d: one.get(d, 0) + other.get(d, 0) for d in sorted({*one, *other})}
            self.assertEqual(self.tell_turned(joined, one, other), {d: r for d, r in sums.items() if r})

    def test_joined_bounds(self):
        self.assertEqual(joined({1: 98}, {1: 1}), {1: 99})
        self.assertEqual(joined({1: -98}, {1: -1}), {1: -99})
        self.assertEqual(joined({1: 99}, {1: -99}), {})
        self.fails_many(99, joined, {1: 99}, {1: 1})
        self.fails_many(99, joined, {1: -99}, {1: -1})
        self.fails_many(99, joined, {2: 1, 1: -99}, {1: -99, 3: 1})

    def test_raised(self):
        self.assertEqual(self.tell_turned(raised, {5: 2, 1: -1}, 3), {1: -3, 5: 6})
        self.assertEqual(self.tell_turned(raised, {5: 2, 1: -1}, -1), {1: 1, 5: -2})
        self.assertEqual(self.tell_turned(raised, {5: 2, 1: -1}, 0), {})
        for k in (-99, 0, 99):
            self.assertEqual(raised({}, k), {})
            self.assertEqual(raised({7: 1}, k), {7: k} if k else {})
            self.assertEqual(raised({7: -1}, k), {7: -k} if k else {})
        self.assertEqual(raised({7: 99, 3: -99}, -1), {3: 99, 7: -99})

    def test_raised_bounds(self):
        self.assertEqual(raised({1: 33}, 3), {1: 99})
        self.assertEqual(raised({1: 33}, -3), {1: -99})
        self.assertEqual(raised(FULL, 0), {})
        for quotient, k in (({1: 34}, 3), ({1: 25}, -4), ({1: 1, 2: 2}, 50), ({1: 50}, 2), ({1: -50}, 2), (FULL, 99)):
            self.fails_many(99, raised, quotient, k)

    def test_spread_out(self):
        self.assertEqual(self.tell_turned(spread_out, {5: 2, 1: -1}, 3), {3: -1, 15: 2})
        self.assertEqual(self.tell_turned(spread_out, {5: 2, 1: -1}, 1), {1: -1, 5: 2})
        self.assertEqual(self.tell_turned(spread_out, {1: 4}, 360), {360: 4})
        self.assertEqual(spread_out({}, 360), {})
        self.assertEqual(spread_out({180: 4}, 2), {360: 4})
        self.assertEqual(spread_out(FULL, 1), FULL)
        for quotient, m in (({2: 4}, 360), ({181: 4}, 2), ({361 // 19: 1, 1: 1}, 19), ({1: 1, 360: 1}, 2)):
            self.fails_many(360, spread_out, quotient, m)

    def test_wrong(self):
        wrong = (BadQuotient, NO_QUOTIENTS)
        self.fails_in_turn(joined, [{1: 99}, {2: 1}], [wrong, wrong])
        self.fails_in_turn(raised, [{1: 1}, 2], [wrong, (BadNumber, NO_NUMBERS + [100, -100, 10 ** 30])])
        self.fails_in_turn(spread_out, [{1: 1}, 2], [wrong, (BadNumber, NO_NUMBERS + [0, -1, 361, 10 ** 30])])
        self.fails(BadNumber, raised, {1: 99}, 100)
        self.fails(BadNumber, spread_out, {360: 1}, 361)


class TestRows(QuotientCase):

    def test_by_hand(self):
        self.assertEqual(self.tell_turned(row_of, {1: 1}, 7), [1, -1, -1, 0, 0, 1, 0, 1])
        self.assertEqual(self.tell_turned(row_of, {1: -1}, 7), [1, 1, 2, 3, 5, 7, 11, 15])
        self.assertEqual(self.tell_turned(row_of, {1: 24}, 4), [1, -24, 252, -1472, 4830])
        self.assertEqual(self.tell_turned(row_of, {1: -2, 2: 5, 4: -2}, 9), [1, 2, 0, 0, 2, 0, 0, 0, 0, 2])
        self.assertEqual(self.tell_turned(row_of, {}, 3), [1, 0, 0, 0])
        self.assertEqual(self.tell_turned(row_of, {1: 99}, 0), [1])
        self.assertEqual(row_of({360: -3}, 359), [1] + [0] * 359)
        self.assertEqual(row_of({360: -3}, 360), [1] + [0] * 359 + [3])

    def test_against_the_definition(self):
        for _ in range(60):
            quotient = some_quotient(4, 5, range(1, 13))
            most = CHANCE.randint(0, 30)
            self.assertEqual(self.tell_turned(row_of, quotient, most), slow_row(quotient, most))
        self.assertEqual(row_of({1: 99, 2: -99}, 20), slow_row({1: 99, 2: -99}, 20))

    def test_rows_of_products_are_products_of_rows(self):
        for _ in range(80):
            one, other = some_quotient(4, 40, range(1, 20)), some_quotient(4, 40, range(1, 20))
            row = row_of(one, 60)
            self.assertEqual(row_of(joined(one, other), 60), row_times(row, row_of(other, 60)))
            self.assertEqual(row_of(raised(one, 2), 60), row_power(row, 2))
            self.assertEqual(row_of(raised(one, -1), 60), row_power(row, -1))
            m = CHANCE.randint(1, 9)
            self.assertEqual(row_of(spread_out(one, m), 61 * m - 1), row_spread(row, m))
            self.assertEqual(row_section(row_of(spread_out(one, m), 61 * m - 1), m, 0), row)

    def test_longest(self):
        row = row_of({1: 1}, 3000)
        self.assertEqual(len(row), 3001)
        self.assertEqual(row_times(row, row_of({1: -1}, 3000)), [1] + [0] * 3000)
        tall = row_of({d: 99 if d % 2 else -99 for d in range(1, 361)}, 3000)
        self.assertEqual(tall[:12], slow_row({d: 99 if d % 2 else -99 for d in range(1, 12)}, 11))

    def test_wrong(self):
        self.fails_in_turn(row_of, [{1: 1}, 5], [(BadQuotient, NO_QUOTIENTS), (BadMost, NO_MOSTS)])


if __name__ == "__main__":
    unittest.main()
