"""Pairings of the partitions of families that have equally many of each number; families that are quotients."""

from math import gcd

from etasure.checks import GREATEST_LEVEL
from etasure.errors import BadPartition, NotPaired, TooMany
from etasure.families import (bound_of, bounded_parts, family_powers, first_unlike_count, keeps_rules,
                              times_of_parts)
from etasure.partitions import check_partition
from etasure.quotients import bounded_quotient

GREATEST_SUM = 200


def paired(one, other, partition):
    """The partition of other with which the partition, of one, is paired."""
    if first_unlike_count(one, other) is not None:
        raise NotPaired("the families must have equally many partitions of each number")
    check_partition(partition)
    times = times_of_parts(partition)
    if not keeps_rules(one, times):
        raise BadPartition("the partition must be one of the first family")
    if sum(partition) > GREATEST_SUM:
        raise TooMany(GREATEST_SUM)
    part = _part_to_change(other, times)
    while part is not None:
        bound = bound_of(other, part)
        mate = _mate_of(one, other, part, bound)
        times[part] -= bound
        times[mate] = times.get(mate, 0) + bound_of(one, mate)
        part = _part_to_change(other, times)
    parts = []
    for part in sorted(times, reverse=True):
        parts.extend([part] * times[part])
    return tuple(parts)


def _part_to_change(other, times):
    """A part that comes as often as its bound or more; None if there is none."""
    for part in sorted(times):
        bound = bound_of(other, part)
        if bound is not None and times[part] >= bound:
            return part
    return None


def _mate_of(one, other, part, bound):
    """The part of one that is the mate of a part of other with this bound."""
    n = part * bound
    return bounded_parts(one, n)[bounded_parts(other, n).index(part)]


def family_quotient(family):
    """The quotient whose row tells how many partitions the family has; None if there is none."""
    powers = family_powers(family)
    period = len(powers)
    if not all([powers[n - 1] == powers[gcd(n, period) - 1] for n in range(1, period + 1)]):
        return None
    exponents = {}
    for d in range(1, period + 1):
        if period % d == 0:
            # The exponents at all divisors of d come to the negative power at d.
            exponents[d] = -powers[d - 1] - sum([exponents[c] for c in exponents if d % c == 0])
    if not all([d <= GREATEST_LEVEL for d in exponents if exponents[d] != 0]):
        raise TooMany(GREATEST_LEVEL)
    return bounded_quotient(exponents)
