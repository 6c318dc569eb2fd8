"""All quotients of a level with orders not below told ones ([43])."""

import random
import unittest
from fractions import Fraction
from itertools import product

from etasure.errors import BadLevel, BadOrders, BadTwice
from etasure.lattice import holomorphic_ones, quotients_above
from etasure.orders import all_orders, is_holomorphic
from etasure.quotients import is_quotient, pairs_of
from tests.helpers import NO_LEVELS, NO_NUMBERS, NO_RATIOS, Stubborn, TurnedCase, divisors, fraction, ratio
from tests.test_classes import some_borne

CHANCE = random.Random(43)
NO_TWICES = NO_NUMBERS + [-201, 201, 10 ** 40]
# No dicts from just the divisors of 6 to ratios.
NO_ORDERS = [
    None, True, 1, [], (), {}, [(0, 1)] * 4, {1: (0, 1), 2: (0, 1), 3: (0, 1)}, {1: 0, 2: 0, 3: 0, 6: 0}, {1: (0, 1)},
    {1: (0, 1), 2: (0, 1), 3: (0, 1), 6: (0, 1), 12: (0, 1)}, {True: (0, 1), 2: (0, 1), 3: (0, 1), 6: (0, 1)},
    {1.0: (0, 1), 2: (0, 1), 3: (0, 1), 6: (0, 1)}, {"1": (0, 1), 2: (0, 1), 3: (0, 1), 6: (0, 1)},
    object(), Stubborn(),
] + [{1: (0, 1), 2: (0, 1), 3: wrong, 6: (0, 1)} for wrong in NO_RATIOS]


def boxed(level, twice, lows, reach):
    """All quotients of the level with exponents from -reach to reach, this sum, and orders not below lows."""
    steps = divisors(level)
    found = []
    for exponents in product(range(-reach, reach + 1), repeat=len(steps) - 1):
        last = twice - sum(exponents)
        if abs(last) <= reach:
            quotient = {d: r for d, r in zip(steps, (*exponents, last)) if r}
            orders = all_orders(level, quotient)
            if all(fraction(orders[c]) >= fraction(lows[c]) for c in steps):
                found.append(quotient)
    return sorted(found, key=lambda told: tuple(sorted(told.items())))


class TestQuotientsAbove(TurnedCase):

    def check(self, level, twice, lows, told):
        pairs = [pairs_of(quotient) for quotient in told]
        self.assertEqual(pairs, sorted(set(pairs)))
        for quotient in told:
            self.assertTrue(is_quotient(quotient) and sum(quotient.values()) == twice)
            self.assertEqual(list(quotient), sorted(quotient))
            orders = all_orders(level, quotient)
            self.assertTrue(all(fraction(orders[c]) >= fraction(lows[c]) for c in divisors(level)))

    def test_by_hand(self):
        four = [{1: -1, 2: 2}, {1: 1}, {1: 2, 2: -1}, {2: 1}]
        self.assertEqual(self.tell(holomorphic_ones, 2, 1), four)
        self.assertEqual(self.tell(quotients_above, 2, 1, {1: (0, 1), 2: (0, 1)}), four)
        self.assertEqual(self.tell(holomorphic_ones, 1, 0), [{}])
        self.assertEqual(self.tell(holomorphic_ones, 1, 3), [{1: 3}])
        self.assertEqual(self.tell(holomorphic_ones, 1, -1), [])
        self.assertEqual(self.tell(quotients_above, 1, -1, {1: (-1, 24)}), [{1: -1}])
        self.assertEqual(self.tell(quotients_above, 1, -1, {1: (-1, 25)}), [])

    def test_edges(self):
        self.assertEqual(holomorphic_ones(1, 99), [{1: 99}])
        for twice in (100, 200):
            self.assertEqual(holomorphic_ones(1, twice), [])
        self.assertEqual(quotients_above(1, -99, {1: (-9, 1)}), [{1: -99}])
        self.assertEqual(quotients_above(1, -100, {1: (-9, 1)}), [])
        self.assertEqual(holomorphic_ones(2, 198), [{1: 99, 2: 99}])
        self.assertEqual(holomorphic_ones(2, 200), [])
        self.assertEqual(quotients_above(2, -198, {1: (-99, 1), 2: (-99, 1)}), [{1: -99, 2: -99}])
        self.assertEqual(holomorphic_ones(360, 0), [{}])
        for twice in (-1, -200):
            self.assertEqual(holomorphic_ones(360, twice), [])
        self.fails_many(2000, holomorphic_ones, 360, 200)
        self.fails_many(2000, quotients_above, 360, -200, {c: (-99, 1) for c in divisors(360)})
        self.assertEqual(len(quotients_above(2, 0, {1: (-99, 1), 2: (-99, 1)})), 199)

    def test_one_alone(self):
        for level in (1, 2, 6, 12, 36, 60, 64, 121, 210, 360):
            for reach in (3, 99):
                quotient = some_borne(level, reach)
                twice = sum(quotient.values())
                if -200 <= twice <= 200:
                    self.assertEqual(self.tell(quotients_above, level, twice, all_orders(level, quotient)), [quotient])
                    lows = {c: ratio(fraction(low) + Fraction(1, 9 ** 9)) if c == level else low
                            for c, low in all_orders(level, quotient).items()}
                    self.assertEqual(quotients_above(level, twice, lows), [])

    def test_complete_without_an_order_below_0(self):
        for level, most, reach in ((2, 4, 20), (3, 4, 20), (4, 3, 20), (5, 5, 15), (6, 1, 8), (9, 2, 14), (8, 1, 10)):
            lows = {c: (0, 1) for c in divisors(level)}
            for twice in range(-1, most + 1):
                told = self.tell(holomorphic_ones, level, twice)
                self.assertEqual(told, boxed(level, twice, lows, reach))
                self.check(level, twice, lows, told)
                self.assertTrue(all(is_holomorphic(quotient) for quotient in told))

    def test_complete_above_drawn_orders(self):
        many = 0
        for level, reach, wide in ((2, 99, 12), (3, 99, 12), (5, 99, 12), (4, 24, 6), (9, 24, 6), (6, 7, 2), (8, 7, 2)):
            for _ in range(12):
                lows = {c: ratio(Fraction(CHANCE.randint(-8, 4), CHANCE.choice([1, 2, 3, 7, 24, 100])) * wide / 48)
                        for c in divisors(level)}
                twice = CHANCE.randint(-wide, wide)
                if len(boxed(level, twice, lows, reach)) > 1500:
                    continue
                told = self.tell(quotients_above, level, twice, lows)
                self.check(level, twice, lows, told)
                inside = [quotient for quotient in told if max([0] + [abs(r) for r in quotient.values()]) <= reach]
                self.assertEqual(inside, boxed(level, twice, lows, reach))
                many += len(told)
        self.assertGreater(many, 400)

    def test_complete_where_exponents_are_cut_off(self):
        for level in (2, 3, 5, 7):
            for twice in (-190, -97, 0, 97, 150, 198):
                lows = {c: ratio(Fraction(CHANCE.randint(-300, 10), 3)) for c in divisors(level)}
                told = self.tell(quotients_above, level, twice, lows)
                self.assertEqual(told, boxed(level, twice, lows, 99))
        for twice, lows in ((200, {1: (6, 1), 2: (6, 1), 4: (-9, 1)}), (0, {1: (2, 1), 2: (1, 1), 4: (-99, 1)}),
                            (-200, {1: (-4, 1), 2: (-99, 1), 4: (-99, 1)}), (0, {1: (4, 1), 2: (0, 1), 4: (-99, 1)}),
                            (0, {1: (-99, 1), 2: (3, 1), 4: (-5, 1)}), (0, {1: (-99, 1), 2: (-99, 1), 4: (-99, 1)})):
            expected = boxed_four(twice, lows)
            if len(expected) > 2000:
                self.fails_many(2000, quotients_above, 4, twice, lows)
            else:
                self.assertEqual(quotients_above(4, twice, lows), expected)
        self.fails_many(2000, quotients_above, 4, 200, {1: (-99, 1), 2: (-99, 1), 4: (-99, 1)})

    def test_just_at_the_bound(self):
        lows = {c: (0, 1) for c in divisors(4)}
        seen = set()
        for twice in range(12, 80):
            try:
                told = quotients_above(4, twice, lows)
                self.assertLessEqual(len(told), 2000)
                seen.add(True)
            except Exception:
                self.fails_many(2000, quotients_above, 4, twice, lows)
                seen.add(False)
                self.assertGreater(len(boxed_four(twice, lows)), 2000)
                break
        self.assertEqual(seen, {True, False})

    def test_mersmann(self):
        # Of weight 1 / 2 they are those known ones of level 12 and their images.
        self.assertEqual(len(holomorphic_ones(12, 1)), 32)
        self.assertEqual(len(holomorphic_ones(60, 1)), 64)
        for quotient in holomorphic_ones(60, 1):
            self.assertTrue(is_holomorphic(quotient))

    def test_wrong(self):
        zeros = {1: (0, 1), 2: (0, 1), 3: (0, 1), 6: (0, 1)}
        self.fails_in_turn(quotients_above, [6, 1, zeros],
                           [(BadLevel, NO_LEVELS), (BadTwice, NO_TWICES), (BadOrders, NO_ORDERS)])
        self.fails_in_turn(holomorphic_ones, [6, 1], [(BadLevel, NO_LEVELS), (BadTwice, NO_TWICES)])
        self.fails(BadOrders, quotients_above, 12, 200, zeros)


def boxed_four(twice, lows):
    """As boxed with all exponents of quotients at level 4, by the sums themselves."""
    found = []
    for x in range(-99, 100):
        for y in range(-99, 100):
            z = twice - x - y
            sums = {1: 4 * x + 2 * y + z, 2: 4 * x + 8 * y + 4 * z, 4: 4 * x + 8 * y + 16 * z}
            if abs(z) <= 99 and all(sums[c] * lows[c][1] >= 96 * lows[c][0] for c in sums):
                found.append({d: r for d, r in ((1, x), (2, y), (4, z)) if r})
    return sorted(found, key=lambda told: tuple(sorted(told.items())))


if __name__ == "__main__":
    unittest.main()
