"""Families of partitions in which parts come fewer times than rules let."""

from math import lcm

from etasure.arithmetic import lcm_of
from etasure.checks import check_most, is_number_tuple, is_within
from etasure.errors import BadFamily, TooMany
from etasure.partitions import check_partition
from etasure.products import row_from_sums, sums_over_divisors

MOST_RULES = 6
GREATEST_MODULUS = 24
GREATEST_LESS = 9
LONGEST_PERIOD = 5040


def is_family(thing):
    """Whether it is a list of at most 6 rules."""
    return isinstance(thing, (list, tuple)) and len(thing) <= MOST_RULES and all([_is_rule(rule) for rule in thing])


def _is_rule(thing):
    """Whether it is a rule (modulus, residues, less)."""
    if not isinstance(thing, tuple) or len(thing) != 3:
        return False
    modulus, residues, less = thing
    if not is_within(modulus, 1, GREATEST_MODULUS) or not is_within(less, 1, GREATEST_LESS):
        return False
    if not is_number_tuple(residues) or len(residues) == 0:
        return False
    if not all([0 <= rest < modulus for rest in residues]):
        return False
    return all([one < other for one, other in zip(residues, residues[1:])])


def check_family(family):
    """BadFamily unless it is a family."""
    if not is_family(family):
        raise BadFamily("a family is a list of at most 6 rules (modulus, residues, less)")


def bound_of(family, part):
    """The number that the part comes fewer times than; None if it may come any number of times."""
    return min([less for modulus, residues, less in family if part % modulus in residues], default=None)


def is_in(family, partition):
    """Whether the partition is one of the family."""
    check_family(family)
    check_partition(partition)
    return keeps_rules(family, times_of_parts(partition))


def times_of_parts(partition):
    """The dict from the parts of a partition to how many times each comes."""
    times = {}
    for part in partition:
        times[part] = times.get(part, 0) + 1
    return times


def keeps_rules(family, times):
    """Whether each part comes fewer times than its bound."""
    bounds = {part: bound_of(family, part) for part in times}
    return all([bounds[part] is None or times[part] < bounds[part] for part in times])


def bounded_parts(family, n):
    """The ascending list of the parts k for which k times its bound is n."""
    bounds = range(GREATEST_LESS, 0, -1)
    return [n // bound for bound in bounds if n % bound == 0 and bound_of(family, n // bound) == bound]


def powers_up_to(family, last):
    """For n from 1 to last, 1 less the number of parts k for which k times its bound is n."""
    return [1 - len(bounded_parts(family, n)) for n in range(1, last + 1)]


def family_row(family, most):
    """How many partitions of n the family has, for n from 0 to most."""
    check_family(family)
    check_most(most)
    return row_from_sums(sums_over_divisors(powers_up_to(family, most), most + 1))


def family_powers(family):
    """The powers whose product_row is family_row, over one period."""
    check_family(family)
    return powers_up_to(family, _checked_period(period_of(family)))


def period_of(family):
    """After how many the powers come again."""
    return lcm_of([modulus for modulus, _, _ in family]) * lcm_of([less for _, _, less in family])


def _checked_period(period):
    """The period; TooMany(5040) if it is above that."""
    if period > LONGEST_PERIOD:
        raise TooMany(LONGEST_PERIOD)
    return period


def first_unlike_count(one, other):
    """The least n of which two families have unequally many partitions; None if there is none."""
    check_family(one)
    check_family(other)
    last = _checked_period(lcm(period_of(one), period_of(other)))
    for n in range(1, last + 1):
        if len(bounded_parts(one, n)) != len(bounded_parts(other, n)):
            return n
    return None
