"""Ratios: pairs (above, below) without a common divisor above 1, below from 1 on."""

from math import gcd

from etasure.checks import is_pair


def is_ratio(thing):
    """Whether it is a pair of numbers without a common divisor above 1, the second one from 1 on."""
    return is_pair(thing) and thing[1] >= 1 and gcd(thing[0], thing[1]) == 1


def ratio_of(above, below):
    """The ratio above / below, below being from 1 on."""
    common = gcd(above, below)
    return (above // common, below // common)


def ratio_plus(one, other):
    """The sum of two ratios."""
    return ratio_of(one[0] * other[1] + other[0] * one[1], one[1] * other[1])


def ratio_times(one, other):
    """The product of two ratios."""
    return ratio_of(one[0] * other[0], one[1] * other[1])


def ratio_less(one, other):
    """The first ratio less the second one."""
    return ratio_of(one[0] * other[1] - other[0] * one[1], one[1] * other[1])


def is_below(one, other):
    """Whether the first ratio is below the second one."""
    return one[0] * other[1] < other[0] * one[1]


def least_ratio(ratios):
    """The least of one or more ratios."""
    least = ratios[0]
    for ratio in ratios:
        if is_below(ratio, least):
            least = ratio
    return least
