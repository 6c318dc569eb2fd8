"""Partitions: descending tuples of parts."""

from etasure.checks import is_number_tuple, is_within
from etasure.errors import BadNumber, BadPartition, NotApart, TooMany

MOST_PARTS = 200
GREATEST_PART = 1000000
GREATEST_LISTED = 30


def is_partition(thing):
    """Whether it is a descending tuple of at most 200 numbers from 1 to 10 ** 6."""
    if not is_number_tuple(thing) or len(thing) > MOST_PARTS:
        return False
    if not all([1 <= part <= GREATEST_PART for part in thing]):
        return False
    return all([one >= other for one, other in zip(thing, thing[1:])])


def check_partition(partition):
    """BadPartition unless it is a partition."""
    if not is_partition(partition):
        raise BadPartition("a partition is a descending tuple of at most 200 numbers from 1 to 10 ** 6")


def partitions_of(n):
    """The list of all partitions of n, descending."""
    if not is_within(n, 0, GREATEST_LISTED):
        raise BadNumber("n is a number from 0 to 30")
    return _partitions_within(n, n)


def _partitions_within(n, greatest):
    """The list of all partitions of n without a part above the greatest one, descending."""
    if n == 0:
        return [()]
    found = []
    for first in range(min(n, greatest), 0, -1):
        found.extend([(first,) + rest for rest in _partitions_within(n - first, first)])
    return found


def mirrored(partition):
    """The partition whose k-th part is how many parts are k or more."""
    check_partition(partition)
    if not partition:
        return ()
    if partition[0] > MOST_PARTS:
        raise TooMany(MOST_PARTS)
    return tuple([len([part for part in partition if part >= k]) for k in range(1, partition[0] + 1)])


def franklin(partition):
    """The other partition to which Franklin's step leads from one of unlike parts, or that one itself."""
    check_partition(partition)
    if not all([one > other for one, other in zip(partition, partition[1:])]):
        raise NotApart("the parts must be unlike")
    if not partition:
        return ()
    last = partition[-1]
    stairs = 1
    while stairs < len(partition) and partition[stairs] == partition[0] - stairs:
        stairs += 1
    is_outside = stairs < len(partition)
    if last <= stairs and (is_outside or last < stairs):
        rest = partition[:-1]
        return tuple([part + 1 for part in rest[:last]]) + rest[last:]
    if last > stairs and (is_outside or last > stairs + 1):
        return tuple([part - 1 for part in partition[:stairs]]) + partition[stairs:] + (stairs,)
    return partition
