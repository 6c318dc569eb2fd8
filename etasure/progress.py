"""Progressions: the coefficients a(m * n + t) of a quotient, and what holds for all n of them."""

from math import lcm

from etasure.alikeness import bound_of_class
from etasure.arithmetic import greatest_divisor
from etasure.checks import GREATEST_LEVEL, check_most, is_within
from etasure.divisible import check_divisor, place_undivided
from etasure.equal import least_exponent
from etasure.errors import BadPair, BadStep, NotFit, TooMany
from etasure.pieces import GREATEST_SECTION, LAST_NEEDED, part_level
from etasure.quotients import (GREATEST_EXPONENT, check_quotient, is_quotient, product_of_quotients,
                               quotient_series)
from etasure.tables import negated, one_table
from etasure.terms import level_of_term, start_parts


def check_modulus(m):
    """BadStep unless it is a number from 2 to 60."""
    if not is_within(m, 2, GREATEST_SECTION):
        raise BadStep("m is a number from 2 to 60")


def _check_steps(quotient, m, t):
    """BadQuotient, BadStep unless they are a quotient, a step and a residue."""
    check_quotient(quotient)
    check_modulus(m)
    if not is_within(t, 0, m - 1):
        raise BadStep("t is a number from 0 to m - 1")


def progression(quotient, m, t, most):
    """The list of a(m * n + t) for n from 0 to most."""
    _check_steps(quotient, m, t)
    check_most(most)
    if m * most + t > LAST_NEEDED:
        raise TooMany(LAST_NEEDED)
    return quotient_series(quotient, m * most + t + 1)[t::m]


def _parts_at(quotient, t):
    """The sum of d * r, plus 24 * t."""
    return sum([d * r for d, r in quotient.items()]) + 24 * t


def fits(quotient, m, t):
    """Whether m divides the sum of d * r, plus 24 * t."""
    _check_steps(quotient, m, t)
    return _parts_at(quotient, t) % m == 0


def fitting(quotient, m):
    """The ascending list of the residues that fit."""
    check_quotient(quotient)
    check_modulus(m)
    return [t for t in range(m) if _parts_at(quotient, t) % m == 0]


def progression_term(quotient, m, t):
    """The term whose coefficients are a(m * n + t)."""
    _check_steps(quotient, m, t)
    if _parts_at(quotient, t) % m != 0:
        raise NotFit("m must divide the sum of d * r, plus 24 * t")
    return _term_of(quotient, m, t)


def _term_of(quotient, m, t):
    """As progression_term, where it fits."""
    x = -(_parts_at(quotient, t) // m) % 24
    first, second = x, 0
    if (sum(quotient.values()) + x) % 2 != 0:
        first, second = (x - 2) % 24, 1
    inner = product_of_quotients(quotient, product_of_quotients({m: first}, {2 * m: second}))
    if not all([r <= GREATEST_EXPONENT for r in inner.values()]):
        raise TooMany(GREATEST_EXPONENT)
    term = (1, product_of_quotients({1: -first}, {2: -second}), (("part", m, tuple(sorted(inner.items()))),))
    if part_level(m, inner) is None or level_of_term(term) > GREATEST_LEVEL:
        raise TooMany(GREATEST_LEVEL)
    return term


def content_of(quotient, m, t):
    """The greatest number that divides a(m * n + t) for all n; 0 if all of them are 0."""
    return greatest_divisor(_numbers_needed(progression_term(quotient, m, t)))


def _numbers_needed(term):
    """The numbers of the progression of the term up to the last one needed."""
    return one_table(level_of_term(term), [term]).rows[0]


def last_needed(quotient, m, t):
    """The greatest n whose number is needed to tell what divides all; -1 if there is none."""
    term = progression_term(quotient, m, t)
    above, below = bound_of_class(level_of_term(term), [term])
    return max(-1, (24 * above - start_parts(term) * below) // (24 * below))


def first_not(quotient, m, t, u):
    """The least n for which u does not divide a(m * n + t); None if there is none."""
    term = progression_term(quotient, m, t)
    check_divisor(u)
    return place_undivided(_numbers_needed(term), u)


def parted(one, other):
    """The least n for which the numbers of two progressions (quotient, m, t) are unlike; None if there is none."""
    if not _is_fitting(one) or not _is_fitting(other) or _first_of(one) != _first_of(other):
        raise BadPair("both must be triples that fit, with exponents that are equal")
    first, second = _term_of(one[0], one[1], one[2]), _term_of(other[0], other[1], other[2])
    level = lcm(level_of_term(first), level_of_term(second))
    if level > GREATEST_LEVEL:
        raise TooMany(GREATEST_LEVEL)
    exponent = least_exponent(level, [first] + negated([second]))
    if exponent is None:
        return None
    return (24 * exponent[0] // exponent[1] - start_parts(first)) // 24


def _is_fitting(thing):
    """Whether it is a triple of a quotient, a step and a residue that fits."""
    if not isinstance(thing, tuple) or len(thing) != 3:
        return False
    quotient, m, t = thing
    if not is_quotient(quotient) or not is_within(m, 2, GREATEST_SECTION) or not is_within(t, 0, m - 1):
        return False
    return _parts_at(quotient, t) % m == 0


def _first_of(triple):
    """24 times the exponent that belongs to n = 0."""
    quotient, m, t = triple
    return _parts_at(quotient, t) // m
