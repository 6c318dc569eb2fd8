"""Product forms: sums whose coefficients multiply, and their coefficients however far away."""

from etasure.arithmetic import divisors_of, primes_of
from etasure.checks import is_within
from etasure.equal import check_level_and_sum
from etasure.errors import BadNumber, NotCuspidal, NotProduct, TooMany
from etasure.hecke import factor_at, hecke_number, numbers_up_to, reach_in, straight_sign
from etasure.sums import GREATEST_DISTANCE
from etasure.terms import least_of_term

GREATEST_PLACE = 10000000000000000000000000000000000000000
GREATEST_KNOWN_PRIME = 3000


def is_cuspidal(level, terms):
    """Whether the sum is straight, and the orders of its terms are above 0 at all cusps."""
    check_level_and_sum(level, terms)
    if straight_sign(level, terms) is None:
        return False
    return all([least_of_term(term, c)[0] > 0 for term in terms for c in divisors_of(level)])


def _check_cuspidal(level, terms):
    """BadLevel, BadSum; NotCuspidal unless the sum is cuspidal."""
    if not is_cuspidal(level, terms):
        raise NotCuspidal("the sum is not cuspidal at the level")


def first_broken(level, terms):
    """None for a product form; otherwise (1, 1), or the least (p, n) at which the coefficients do not multiply."""
    _check_cuspidal(level, terms)
    return _broken_pair(level, terms)


def _broken_pair(level, terms):
    """As first_broken, of what is known to be cuspidal."""
    reach = reach_in(level, terms)
    if reach * reach > GREATEST_DISTANCE:
        raise TooMany(GREATEST_DISTANCE)
    numbers = numbers_up_to(terms, reach * reach)
    if numbers.get(1, 0) != 1:
        return (1, 1)
    for p in range(2, reach + 1):
        if primes_of(p) == [p]:
            factor = factor_at(level, terms, p)
            for n in range(1, reach + 1):
                if hecke_number(numbers, p, factor, n) != numbers.get(p, 0) * numbers.get(n, 0):
                    return (p, n)
    return None


def coefficient_at(level, terms, n):
    """The n-th coefficient of a product form, n having no prime above 3000 in it."""
    _check_cuspidal(level, terms)
    if not is_within(n, 1, GREATEST_PLACE):
        raise BadNumber("n is a number from 1 to 10 ** 40")
    if _broken_pair(level, terms) is not None:
        raise NotProduct("the sum is not a product form")
    times = _times_of_primes(n)
    numbers = numbers_up_to(terms, max([1] + list(times)))
    worth = 1
    for p in times:
        worth *= _at_power(numbers.get(p, 0), factor_at(level, terms, p), times[p])
    return worth


def _times_of_primes(n):
    """The dict from the primes of n to how many times they are in it; TooMany(3000) if one is above 3000."""
    times = {}
    for p in range(2, GREATEST_KNOWN_PRIME + 1):
        while n % p == 0:
            times[p] = times.get(p, 0) + 1
            n //= p
    if n > 1:
        raise TooMany(GREATEST_KNOWN_PRIME)
    return times


def _at_power(first, factor, k):
    """The coefficient at p ** k, of that at p and the factor of the operator in p."""
    before, now = 0, 1
    for _ in range(k):
        before, now = now, first * now - factor * before
    return now
