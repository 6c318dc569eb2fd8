"""Families of partitions ([111])."""

import random
import unittest
from collections import Counter
from math import lcm, prod

from etasure.errors import BadFamily, BadMost, BadPartition
from etasure.families import family_powers, family_row, first_unlike_count, is_family, is_in
from etasure.partitions import partitions_of
from etasure.products import product_row
from tests.helpers import NO_MOSTS, Case, Stubborn
from tests.test_partitions import NO_PARTITIONS, some_partition

CHANCE = random.Random(111)
ODD, APART = [(2, (0,), 1)], [(1, (0,), 2)]
RIGHT = [[], [(1, (0,), 1)], [(24, tuple(range(24)), 9)], [(24, (0, 23), 9)] * 6, ODD, APART,
         [(5, (0, 2, 3), 1), (1, (0,), 4)]]
BAD_RULES = [
    None, True, 1, "rule", (), (2,), (2, (0,)), (2, (0,), 1, 1), [2, (0,), 1], (0, (0,), 1), (25, (0,), 1),
    (-1, (0,), 1), (True, (0,), 1), (2.0, (0,), 1), (2, (), 1), (2, [0], 1), (2, 0, 1), (2, (2,), 1), (2, (-1,), 1),
    (2, (0, 0), 1), (2, (1, 0), 1), (2, (True,), 1), (2, (0.0,), 1), (2, (None,), 1), (2, (0,), 0), (2, (0,), 10),
    (2, (0,), True), (2, (0,), 1.0), (2, (0,), None), (2, {0: 1}, 1), (None, (0,), 1), (2, None, 1), Stubborn(),
    (Stubborn(), (0,), 1), (2, Stubborn(), 1), (2, (0,), Stubborn()),
]
NO_FAMILIES = [None, True, 1, "odd", {}, {1: 2}, (2, (0,), 1), [[]], range(0), iter([]), object(), Stubborn(),
               ODD * 7, tuple(ODD * 7), [ODD]] + [[rule] for rule in BAD_RULES] + [[ODD[0],
                                                                                    rule] for rule in BAD_RULES[:9]]
# Families with equally many partitions of each number.
EQUAL = [
    (ODD, APART), ([(3, (0,), 1)], [(1, (0,), 3)]), ([(7, (0,), 1)], [(1, (0,), 7)]), ([], []),
    # Schur: parts that leave 1 or 5 by 6; unlike parts that leave 1 or 2 by 3.
    ([(6, (0, 2, 3, 4), 1)], [(3, (0,), 1), (1, (0,), 2)]),
    ([(2, (0,), 2)], [(4, (0,), 1)]), ([(2, (1,), 2), (4, (2,), 1)], [(4, (2,), 1), (2, (1,), 2)]),
    # Unlike even parts, and those that leave 2 by 4.
    ([(1, (0,), 2), (2, (1,), 1)], [(4, (0, 1, 3), 1)]),
]
# Unlike first at a number that is told.
UNLIKE = [([], [(1, (0,), 1)], 1), (ODD, [(3, (0,), 1)], 2), ([(24, (23,), 1)], [(24, (23,), 2)], 23),
          ([], [(24, (0,), 9)], 216), (APART, [(2, (0,), 1), (24, (23,), 1)], 23), ([(1, (0,), 8)], [(1, (0,), 9)], 8),
          ([], [(24, (23,), 9)], 207)]


def some_family(rules=4, moduli=range(1, 13), less=range(1, 6)):
    family = []
    for _ in range(CHANCE.randint(0, rules)):
        modulus = CHANCE.choice(moduli)
        rests = CHANCE.sample(range(modulus), CHANCE.randint(1, min(3, modulus)))
        family.append((modulus, tuple(sorted(rests)), CHANCE.choice(less)))
    return family


def bound(family, part):
    return min([less for modulus, residues, less in family if part % modulus in residues], default=None)


def belongs(family, partition):
    for modulus, residues, less in family:
        for part, times in Counter(partition).items():
            if part % modulus in residues and times >= less:
                return False
    return True


def period(family):
    return lcm(*[rule[0] for rule in family]) * lcm(*[rule[2] for rule in family])


def slow_row(family, most):
    """How many partitions, part by part."""
    row = [1] + [0] * most
    for part in range(1, most + 1):
        least = bound(family, part)
        times = range(least if least is not None else most + 1)
        row = [sum(row[n - part * k] for k in times if part * k <= n) for n in range(most + 1)]
    return row


class TestFamilies(Case):

    def test_is_family(self):
        self.judges(is_family, RIGHT[1:] + [tuple(family) for family in RIGHT if family], NO_FAMILIES)
        self.assertIs(is_family([]), True)
        self.assertIs(is_family(()), True)
        self.assertIs(is_family(thing=ODD), True)

    def test_is_in(self):
        self.assertIs(self.tell(is_in, ODD, (5, 3, 3, 1)), True)
        self.assertIs(self.tell(is_in, ODD, (5, 4)), False)
        self.assertIs(self.tell(is_in, APART, (5, 4)), True)
        self.assertIs(self.tell(is_in, APART, (5, 5)), False)
        self.assertIs(self.tell(is_in, [], (5, 5)), True)
        self.assertIs(self.tell(is_in, [(1, (0,), 1)], ()), True)
        counts = {True: 0, False: 0}
        for _ in range(600):
            family, partition = some_family(), some_partition(8, 12)
            expected = belongs(family, partition)
            counts[expected] += 1
            self.assertIs(self.tell(is_in, family, partition), expected)
        self.assertGreater(min(counts.values()), 100)
        self.assertIs(is_in([(24, (16,), 9)], (10 ** 6,) * 8), True)
        self.assertIs(is_in([(24, (16,), 9)], (10 ** 6,) * 9), False)

    def test_rows_by_counting(self):
        lists = [partitions_of(n) for n in range(17)]
        for family in RIGHT + [some_family() for _ in range(40)]:
            expected = [sum(1 for partition in told if belongs(family, partition)) for told in lists]
            self.assertEqual(self.tell(family_row, family, 16), expected)
        for family in RIGHT + [some_family(6, range(1, 25), range(1, 10)) for _ in range(40)]:
            self.assertEqual(self.tell(family_row, family, 60), slow_row(family, 60))
        self.assertEqual(family_row(ODD, 0), [1])
        self.assertEqual(len(family_row(ODD, 3000)), 3001)

    def test_powers_by_hand(self):
        self.assertEqual(self.tell(family_powers, ODD), [1, 0])
        self.assertEqual(self.tell(family_powers, APART), [1, 0])
        self.assertEqual(self.tell(family_powers, []), [1])
        self.assertEqual(self.tell(family_powers, [(1, (0,), 1)]), [0])
        self.assertEqual(self.tell(family_powers, [(5, (0,), 1)]), [1, 1, 1, 1, 0])
        # Both 2 * 3 and 6 * 1 are 6.
        self.assertEqual(self.tell(family_powers, [(6, (2,), 3), (6, (0,), 1)])[5], -1)

    def test_powers(self):
        made = 0
        for _ in range(120):
            family = some_family(CHANCE.choice([2, 3, 6]))
            if period(family) > 5040:
                self.fails_many(5040, family_powers, family)
                continue
            made += 1
            told = self.tell(family_powers, family)
            self.assertEqual(len(told), period(family))
            far = [1 - sum(1 for k in range(1, n + 1) if bound(family, k) is not None and k * bound(family, k) == n)
                   for n in range(1, min(len(told), 120) + 1)]
            self.assertEqual(told[:len(far)], far)
            repeated = (told * (100 // len(told) + 1))[:100]
            self.assertEqual(product_row(repeated, 100), family_row(family, 100))
        self.assertGreater(made, 60)

    def test_greatest_periods(self):
        just = [(16, (0,), 9), (5, (0,), 7)]
        self.assertEqual(period(just), 5040)
        self.assertEqual(len(family_powers(just)), 5040)
        self.assertEqual(len(family_powers([(24, (0,), 7), (15, (1,), 6)])), 5040)
        above = [(16, (0,), 9), (11, (0,), 7)]
        self.assertGreater(period(above), 5040)
        self.fails_many(5040, family_powers, above)
        self.assertEqual(family_row(above, 40), slow_row(above, 40))
        self.assertIs(is_in(above, (16,) * 8), True)

    def test_unlike_by_hand(self):
        self.assertIsNone(self.tell(first_unlike_count, ODD, APART))
        for one, other in EQUAL:
            self.assertIsNone(self.tell(first_unlike_count, one, other))
            self.assertEqual(family_row(one, 400), family_row(other, 400))
        for one, other, n in UNLIKE:
            self.assertEqual(self.tell(first_unlike_count, one, other), n)
            self.assertEqual(first_unlike_count(other, one), n)
            rows = family_row(one, n), family_row(other, n)
            self.assertEqual(rows[0][:n], rows[1][:n])
            self.assertNotEqual(rows[0][n], rows[1][n])

    def test_unlike(self):
        late = 0
        for _ in range(150):
            one = some_family(3)
            other = CHANCE.choice([some_family(3), one + some_family(1, range(8, 25)), one[:-1]])
            if not is_family(other) or lcm(period(one), period(other)) > 5040:
                continue
            told = self.tell(first_unlike_count, one, other)
            last = 200
            rows = family_row(one, last), family_row(other, last)
            found = [n for n in range(last + 1) if rows[0][n] != rows[1][n]]
            if told is None or told > last:
                self.assertEqual(found, [])
            else:
                self.assertEqual(told, found[0])
                late += told > 7
        self.assertGreater(late, 5)

    def test_unlike_too_many(self):
        # Each has a short period, but both together not.
        one, other = [(16, (0,), 9)], [(11, (0,), 7)]
        self.assertLess(period(one), 5040)
        self.fails_many(5040, first_unlike_count, one, other)
        self.fails_many(5040, first_unlike_count, other, one)
        self.assertEqual(first_unlike_count([(16, (0,), 9)], [(5, (0,), 7)]), 35)
        self.assertEqual(prod([16, 9, 5, 7]), 5040)
        above = [(16, (0,), 9), (11, (0,), 7)]
        self.fails_many(5040, first_unlike_count, above, above)

    def test_wrong(self):
        self.fails_in_turn(is_in, [ODD, (1,)], [(BadFamily, NO_FAMILIES), (BadPartition, NO_PARTITIONS)])
        self.fails_in_turn(family_row, [ODD, 3], [(BadFamily, NO_FAMILIES), (BadMost, NO_MOSTS)])
        self.fails_in_turn(family_powers, [ODD], [(BadFamily, NO_FAMILIES)])
        self.fails_in_turn(first_unlike_count, [ODD, ODD], [(BadFamily, NO_FAMILIES), (BadFamily, NO_FAMILIES)])


if __name__ == "__main__":
    unittest.main()
