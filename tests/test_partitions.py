"""Partitions ([110])."""

import random
import unittest

from etasure.errors import BadNumber, BadPartition, NotApart
from etasure.partitions import franklin, is_partition, mirrored, partitions_of
from etasure.products import product_row
from tests.helpers import NO_NUMBERS, Case, Stubborn

CHANCE = random.Random(110)
MILLION = 10 ** 6
RIGHT = [(), (1,), (MILLION,), (2, 1), (1, 1), (5, 5, 3, 1), (1,) * 200, (MILLION,) * 200, tuple(range(200, 0, -1))]
NO_PARTITIONS = [
    None, True, 1, "1", [1], [], [2, 1], (0,), (-1,), (MILLION + 1,), (1, 2), (3, 1, 2), (1,) * 201, (True,), (2, True),
    (1.0,), ("1",), (None,), ((1,),), {1: 1}, {1}, object(), Stubborn(), (Stubborn(),), (2, Stubborn()), (1, 0),
]


def some_partition(most=40, greatest=30):
    return tuple(sorted([CHANCE.randint(1, greatest) for _ in range(CHANCE.randint(0, most))], reverse=True))


def some_apart(most=12, greatest=25):
    return tuple(sorted(CHANCE.sample(range(1, greatest + 1), CHANCE.randint(1, most)), reverse=True))


def slow_franklin(parts):
    """Franklin's step, as the document says it."""
    s, t = parts[-1], 1
    while t < len(parts) and parts[t] == parts[t - 1] - 1:
        t += 1
    is_among = t == len(parts)
    if s <= t and (not is_among or s < t):
        rest = list(parts[:-1])
        return tuple(rest[at] + 1 if at < s else rest[at] for at in range(len(rest)))
    if s > t and (not is_among or s > t + 1):
        return tuple([part - 1 if at < t else part for at, part in enumerate(parts)] + [t])
    return parts


class TestPartitions(Case):

    def told(self, function, partition):
        """What the function tells, by position and by name; partitions must be tuples."""
        told = function(partition)
        self.assert_same(function(partition=partition), told)
        return told

    def test_is_partition(self):
        self.judges(is_partition, [*RIGHT[1:]], NO_PARTITIONS)
        self.assertIs(is_partition(()), True)
        self.assertIs(is_partition(thing=(3, 3)), True)

    def test_lists(self):
        self.assertEqual(self.tell(partitions_of, 0), [()])
        self.assertEqual(self.tell(partitions_of, 1), [(1,)])
        self.assertEqual(self.tell(partitions_of, 4), [(4,), (3, 1), (2, 2), (2, 1, 1), (1, 1, 1, 1)])
        numbers = product_row([1] * 30, 30)
        for n in range(31):
            told = partitions_of(n)
            self.assertEqual(len(told), numbers[n])
            self.assertEqual(told, sorted(set(told), reverse=True))
            self.assertTrue(all(is_partition(partition) and sum(partition) == n for partition in told))

    def test_mirrored(self):
        self.assertEqual(self.told(mirrored, (4, 2, 1)), (3, 2, 1, 1))
        self.assertEqual(self.told(mirrored, ()), ())
        self.assertEqual(self.told(mirrored, (200,)), (1,) * 200)
        self.assertEqual(self.told(mirrored, (1,) * 200), (200,))
        self.assertEqual(self.told(mirrored, (200,) * 200), (200,) * 200)
        for _ in range(150):
            partition = some_partition()
            other = self.told(mirrored, partition)
            self.assertEqual(other, tuple(sum(1 for part in partition if part >= k)
                                          for k in range(1, max(partition, default=0) + 1)))
            self.assertEqual(mirrored(other), partition)
            self.assertEqual(sum(other), sum(partition))
        for partition in ((201,), (MILLION, 1), (201,) * 200):
            self.fails_many(200, mirrored, partition)

    def test_franklin_by_hand(self):
        self.assertEqual(self.told(franklin, ()), ())
        self.assertEqual(self.told(franklin, (7, 6, 4, 3, 2)), (8, 7, 4, 3))
        self.assertEqual(self.told(franklin, (8, 7, 4, 3)), (7, 6, 4, 3, 2))
        self.assertEqual(self.told(franklin, (5,)), (4, 1))
        self.assertEqual(self.told(franklin, (4, 1)), (5,))
        self.assertEqual(self.told(franklin, (3, 2)), (3, 2))
        self.assertEqual(self.told(franklin, (4, 3)), (4, 3))
        self.assertEqual(self.told(franklin, (2, 1)), (3,))

    def test_franklin_there_and_back(self):
        counts = {}
        for n in range(31):
            for partition in partitions_of(n):
                if len(set(partition)) < len(partition):
                    self.fails(NotApart, franklin, partition)
                    continue
                other = self.told(franklin, partition)
                self.assertEqual(other, slow_franklin(partition) if partition else ())
                self.assertEqual((is_partition(other), sum(other)), (True, n))
                self.assertEqual(franklin(other), partition)
                counts[other == partition] = counts.get(other == partition, 0) + 1
                if other == partition:
                    k = len(partition)
                    self.assertIn(partition, ((), tuple(range(2 * k - 1, k - 1, -1)), tuple(range(2 * k, k, -1))))
                else:
                    self.assertEqual(abs(len(other) - len(partition)), 1)
        # 1, 2, 5, 7, 12, 15, 22, 26 and 0 have one that it leaves.
        self.assertEqual(counts[True], 9)

    def test_fixed_ones(self):
        for k in range(1, 101):
            for partition in (tuple(range(2 * k - 1, k - 1, -1)), tuple(range(2 * k, k, -1))):
                self.assertEqual(franklin(partition), partition)

    def test_great_ones(self):
        for _ in range(200):
            partition = some_apart(40, CHANCE.choice([45, 60, 1000, MILLION - 1]))
            other = self.told(franklin, partition)
            self.assertEqual(other, slow_franklin(partition))
            self.assertEqual(franklin(other), partition)
        self.assertEqual(franklin((MILLION,)), (MILLION - 1, 1))
        self.assertEqual(franklin((MILLION, 1)), (MILLION + 1,))
        self.assertEqual(len(franklin(tuple(range(700, 500, -1)))), 201)

    def test_wrong(self):
        self.fails_in_turn(partitions_of, [5], [(BadNumber, NO_NUMBERS + [-1, 31, 10 ** 40])])
        for function in (mirrored, franklin):
            self.fails_in_turn(function, [(3, 1)], [(BadPartition, NO_PARTITIONS)])
        for partition in ((1, 1), (3, 2, 2), (MILLION,) * 200):
            self.fails(NotApart, franklin, partition)


if __name__ == "__main__":
    unittest.main()
