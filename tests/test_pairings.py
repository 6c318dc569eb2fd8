"""Pairings of partitions ([112]), and families that are quotients ([113])."""

import random
import unittest
from collections import Counter
from math import gcd

from etasure.errors import BadFamily, BadPartition, NotPaired
from etasure.families import family_powers, family_row, first_unlike_count, is_family
from etasure.pairings import family_quotient, paired
from etasure.partitions import partitions_of
from etasure.progress import content_of, first_not, progression
from etasure.quotients import is_quotient, row_of
from tests.helpers import Case
from tests.test_families import APART, EQUAL, NO_FAMILIES, ODD, RIGHT, belongs, bound, period, some_family
from tests.test_partitions import NO_PARTITIONS

CHANCE = random.Random(112)
QUOTIENTS = [
    ([], {1: -1}), (APART, {1: -1, 2: 1}), ([(5, (0,), 1)], {1: -1, 5: 1}), ([(1, (0,), 1)], {}),
    ([(2, (0,), 2)], {1: -1, 4: 1}), ([(2, (0,), 1), (1, (0,), 2)], {1: -1, 2: 2, 4: -1}), ([(3, (1, 2), 1)], {3: -1}),
    ([(6, (0, 2, 3, 4), 1)], {1: -1, 2: 1, 3: 1, 6: -1}),
]
NONE = [[(4, (1, 2), 1)], [(5, (1,), 1)], [(5, (1, 4), 1)], [(3, (1,), 2)], [(24, (1,), 9)]]


def mates(one, other, most):
    """For the parts of other the part of one that is its mate, as the document tells it."""
    found = {}
    for n in range(1, most + 1):
        near, far = ([k for k in range(1, n + 1) if bound(family, k) is not None and k * bound(family, k) == n]
                     for family in (one, other))
        assert len(near) == len(far)
        found.update(zip(far, near))
    return found


def slow_pairing(one, other, partition):
    """What comes, whatever part is taken each time."""
    times, mate = Counter(partition), mates(one, other, sum(partition))
    while True:
        parts = [part for part in times if bound(other, part) is not None and times[part] >= bound(other, part)]
        if not parts:
            return tuple(sorted(times.elements(), reverse=True))
        part = CHANCE.choice(parts)
        times[part] -= bound(other, part)
        times[mate[part]] += bound(one, mate[part])


def some_equal():
    """Two families with equally many partitions of each number."""
    while True:
        one, other = CHANCE.choice(EQUAL)
        if CHANCE.random() < 0.5:
            one, other = other, one
        if CHANCE.random() < 0.6:
            # Both with the same rule more are seldom equal, so they are tried.
            rule = some_family(1)
            one, other = one + rule, other + rule
        if is_family(one) and is_family(other) and period(one) * period(other) < 2000:
            if first_unlike_count(one, other) is None:
                return one, other


class TestPaired(Case):

    def test_glaisher(self):
        for d in (2, 3, 5, 9):
            one, other = [(d, (0,), 1)], [(1, (0,), d)]
            for n in (0, 1, 7, 12):
                for partition in partitions_of(n):
                    if not belongs(one, partition):
                        self.fails(BadPartition, paired, one, other, partition)
                        continue
                    times = Counter(partition)
                    while any(count >= d for count in times.values()):
                        part = next(part for part, count in times.items() if count >= d)
                        times[part] -= d
                        times[d * part] += 1
                    self.assertEqual(paired(one, other, partition), tuple(sorted(times.elements(), reverse=True)))

    def test_by_hand(self):
        self.assertEqual(self.tell(paired, ODD, APART, (3, 3, 3, 1, 1, 1, 1)), (6, 4, 3))
        self.assertEqual(self.tell(paired, APART, ODD, (6, 4, 3)), (3, 3, 3, 1, 1, 1, 1))
        self.assertEqual(self.tell(paired, ODD, APART, ()), ())
        self.assertEqual(self.tell(paired, [], [], (5, 5, 1)), (5, 5, 1))
        self.assertEqual(self.tell(paired, ODD, ODD, (5, 5, 1)), (5, 5, 1))

    def test_all_partitions(self):
        met = set()
        for turn in range(40):
            one, other = EQUAL[turn % len(EQUAL)] if turn < 2 * len(EQUAL) else some_equal()
            if turn % 2:
                one, other = other, one
            met.add(str((one, other)))
            for n in (0, 1, 5, 11, 14):
                told = partitions_of(n)
                mine = [partition for partition in told if belongs(one, partition)]
                theirs = [partition for partition in told if belongs(other, partition)]
                found = [paired(one, other, partition) for partition in mine]
                # Each of the other family is hit just once, and they lead back.
                self.assertEqual(sorted(found), sorted(theirs))
                for partition, image in list(zip(mine, found))[:40]:
                    self.assertEqual(slow_pairing(one, other, partition), image)
                    self.assertEqual(paired(other, one, image), partition)
        self.assertGreater(len(met), 15)

    def test_greatest_sums(self):
        for partition in ((1,) * 200, (199, 1), (99, 99, 1, 1), (5,) * 40):
            told = self.tell(paired, ODD, APART, partition)
            self.assertEqual(sum(told), 200)
            self.assertEqual(len(set(told)), len(told))
            self.assertEqual(paired(APART, ODD, told), partition)
        self.assertEqual(paired(APART, ODD, (128, 64, 8)), (1,) * 200)
        for partition in ((201,), (199, 1, 1), (10 ** 6 - 1,)):
            self.fails_many(200, paired, ODD, APART, partition)

    def test_errors(self):
        self.fails_in_turn(paired, [ODD, APART, (3, 1)],
                           [(BadFamily, NO_FAMILIES), (BadFamily, NO_FAMILIES), (BadPartition, NO_PARTITIONS)])
        self.fails(NotPaired, paired, ODD, [], None)
        self.fails(NotPaired, paired, ODD, [(3, (0,), 1)], (2,))
        self.fails(BadPartition, paired, ODD, APART, (2,))
        self.fails(BadPartition, paired, ODD, APART, (201, 200))
        self.fails(BadPartition, paired, APART, ODD, (3, 3))
        above = [(16, (0,), 9), (11, (0,), 7)]
        self.fails_many(5040, paired, above, above, None)
        self.fails_many(5040, paired, above, ODD, None)
        self.fails_many(5040, paired, [(16, (0,), 9)], [(11, (0,), 7)], (1, 2))
        self.fails(BadFamily, paired, above, None, None)


class TestQuotients(Case):

    def test_by_hand(self):
        for family, quotient in QUOTIENTS:
            self.assertEqual(self.tell(family_quotient, family), quotient)
            self.assertEqual(row_of(quotient, 300), family_row(family, 300))
        for family in NONE:
            self.assertIsNone(self.tell(family_quotient, family))

    def test_of_many(self):
        counts = {True: 0, False: 0}
        for _ in range(300):
            family = some_family(3, (1, 2, 3, 4, 6), (1, 2, 3))
            if CHANCE.random() < 0.5:
                # Rules for all that have one common divisor with the modulus.
                family = []
                for _ in range(CHANCE.randint(1, 3)):
                    modulus = CHANCE.choice([2, 3, 4, 5, 6, 8])
                    divisor = CHANCE.choice([d for d in range(1, modulus + 1) if modulus % d == 0])
                    rests = tuple(rest for rest in range(modulus) if gcd(rest, modulus) == divisor)
                    family.append((modulus, rests, CHANCE.randint(1, 3)))
            if period(family) > 360:
                continue
            told = self.tell(family_quotient, family)
            powers = family_powers(family)
            count = len(powers)
            expected = all(powers[n - 1] == powers[gcd(n, count) - 1] for n in range(1, count + 1))
            counts[expected] += 1
            self.assertIs(told is not None, expected)
            if expected:
                self.assertIs(is_quotient(told), True)
                self.assertEqual(list(told), sorted(told))
                self.assertEqual(row_of(told, 200), family_row(family, 200))
        self.assertGreater(min(counts.values()), 25)
        for family in RIGHT:
            if period(family) <= 5040 and family_quotient(family) is not None:
                self.assertEqual(row_of(family_quotient(family), 99), family_row(family, 99))

    def test_too_many(self):
        self.fails_many(5040, family_quotient, [(16, (0,), 9), (11, (0,), 7)])
        # The least common multiple of 19 and 23 would have to be a key.
        self.fails_many(360, family_quotient, [(19, (0,), 1), (23, (0,), 1)])
        self.assertEqual(family_quotient([(19, (0,), 1), (18, (0,), 1)]), {1: -1, 18: 1, 19: 1, 342: -1})
        # What is no quotient is none, however far away its keys would be.
        self.assertIsNone(family_quotient([(19, (1,), 1), (23, (0,), 1)]))

    def test_wrong(self):
        self.fails_in_turn(family_quotient, [ODD], [(BadFamily, NO_FAMILIES)])

    def test_progressions_of_families(self):
        # What divides a(m * n + t) of the quotient divides the numbers of partitions of the family.
        divided = 0
        for family, m, t in (([], 5, 4), ([], 7, 5), (APART, 5, 1), ([(5, (0,), 1)], 5, 4), ([(7, (0,), 1)], 7, 5),
                             ([(2, (0,), 2)], 3, 2), ([(3, (0,), 1)], 2, 1), ([(4, (0,), 1)], 3, 2)):
            quotient = family_quotient(family)
            row = family_row(family, m * 60 + t)
            self.assertEqual(progression(quotient, m, t, 60), row[t::m])
            if (sum(d * r for d, r in quotient.items()) + 24 * t) % m:
                continue
            told = content_of(quotient, m, t)
            self.assertEqual(told, gcd(*row[t::m]))
            divided += told > 1
            self.assertIsNone(first_not(quotient, m, t, told))
        self.assertGreater(divided, 3)


if __name__ == "__main__":
    unittest.main()
