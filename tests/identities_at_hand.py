"""Sums that are known to be 0, and ways to make others of them, for the tests."""

import random
from fractions import Fraction
from math import isqrt, lcm

from etasure.errors import SeriesError
from etasure.sums import collected, is_sum, slope, sum_times
from tests.test_classes import multiplied
from tests.test_pieces import FIVE
from tests.test_sums import JACOBI, MODULAR

CHANCE = random.Random(630)
SEVEN = ("part", 7, ((1, -1), (7, 7)))
ZEROS = [
    JACOBI,
    MODULAR,
    [(1, {}, (("four", 1),)), (-1, {1: 16, 2: -8}, ()), (-256, {1: -8, 2: 16}, ())],
    [(3, {1: -8, 2: 20, 4: -8}, ()), (-1, {}, (("two", 4),))],
    [(5, {}, (("two", 2), ("two", 2))), (-1, {}, (("four", 1),)), (-4, {}, (("four", 2),))],
    [(1, {}, (("part", 2, ((1, 24),)),)), (2048, {2: 24}, ()), (24, {1: 24}, ())],
    [(1, {1: -5}, (FIVE,)), (-5, {1: -6, 5: 5}, ())],
    [(1, {1: -7}, (SEVEN,)), (-49, {1: -8, 7: 7}, ()), (-7, {1: -4, 7: 3}, ())],
    [(1, {}, (("part", 3, ((1, 8), (2, 8))),)), (3 ** 7, {3: 8, 6: 8}, ()), (-12, {1: 8, 2: 8}, ())],
]
# Quotients whose coefficients multiply: a(p) * a(n) is a(p * n) + chi(p) * p ** (k - 1) * a(n / p); with level and
# the sign of chi.
MULTIPLIED = [
    ({1: 24}, 1, 1), ({1: 8, 2: 8}, 2, 1), ({1: 6, 3: 6}, 3, 1), ({2: 12}, 4, 1), ({1: 4, 5: 4}, 5, 1),
    ({1: 2, 2: 2, 3: 2, 6: 2}, 6, 1), ({2: 4, 4: 4}, 8, 1), ({3: 8}, 9, 1), ({1: 2, 11: 2}, 11, 1),
    ({1: 1, 2: 1, 7: 1, 14: 1}, 14, 1), ({1: 1, 3: 1, 5: 1, 15: 1}, 15, 1), ({2: 2, 10: 2}, 20, 1),
    ({2: 1, 4: 1, 6: 1, 12: 1}, 24, 1), ({3: 2, 9: 2}, 27, 1), ({4: 2, 8: 2}, 32, 1), ({6: 4}, 36, 1),
    ({1: 3, 7: 3}, 7, -7), ({1: 2, 2: 1, 4: 1, 8: 2}, 8, -2), ({4: 6}, 16, -1), ({1: 1, 23: 1}, 23, -23),
    ({1: 4, 2: 2, 4: 4}, 4, -1),
]


def times(terms, factor):
    """The sum times one more term; None if that is no sum."""
    try:
        return sum_times(terms, [factor])
    except SeriesError:
        return None


def spelled_out(number, quotient, pieces, change):
    """The terms that come if each piece becomes a sum, a list of pairs (factor, piece), as change tells."""
    parts = [(number, quotient, ())]
    for piece in pieces:
        parts = [(x * y, quotient, tuple(sorted([*beside, new]))) for x, _, beside in parts for y, new in change(piece)]
    return parts


def has_parts(terms):
    return any(piece[0] == "part" for term in terms for piece in term[2])


def at_multiple(terms, k):
    """A number times the sum at k * tau, for sums without parts; None if that is no sum."""
    def change(piece):
        # k times ("two", d) at k * tau is ("two", k * d) less ("two", k).
        if piece[0] == "two":
            return [(Fraction(1, k), ("two", k * piece[1])), (Fraction(-1, k), ("two", k))]
        return [(1, (piece[0], k * piece[1]))]

    told = []
    for number, quotient, pieces in terms:
        told.extend(spelled_out(number, {k * d: r for d, r in quotient.items()}, pieces, change))
    return whole(told)


def turned_around(level, terms):
    """A number times the sum at -1 / (level * tau), for sums of one class without parts; None if that is no sum.

    eta(d * (that)) is eta(level / d * tau) times the root of level / d * tau / i; E4, E6 at d * (that) are those at
    level / d * tau times powers of level / d * tau; ("two", d) becomes ("two", level / d) less ("two", level), times
    level * tau * tau. What all terms have in common is left out.
    """
    def change(piece):
        other = level // piece[1]
        if piece[0] == "two":
            more = [(level, ("two", other))] if other > 1 else []
            return more + [(-level, ("two", level))]
        return [(other ** {"four": 4, "six": 6}[piece[0]], (piece[0], other))]

    told = []
    for number, quotient, pieces in terms:
        less = multiplied(quotient, terms[0][1], -1)
        square = Fraction(1)
        for d, r in less.items():
            square *= Fraction(level, d) ** r
        root = Fraction(isqrt(square.numerator), isqrt(square.denominator)) * (-1) ** (abs(sum(less.values())) // 4)
        assert root * root == square and sum(less.values()) % 4 == 0
        told.extend(spelled_out(number * root, {level // d: r for d, r in quotient.items()}, pieces, change))
    return whole(told)


def whole(terms):
    """The terms with whole numbers instead of fractions; None if that is no sum."""
    common = lcm(*[Fraction(x).denominator for x, _, _ in terms])
    told = [(int(x * common), quotient, pieces) for x, quotient, pieces in terms if x]
    return told if is_sum(told) else None


def slopes(terms):
    """The sum of number * slope for a sum of quotients alone."""
    told = []
    for number, quotient, _ in terms:
        told.extend([(number * x, other, pieces) for x, other, pieces in slope(quotient)])
    return collected(told) if is_sum(told) else None
