"""Relations modulo primes, and sums of unlike weights modulo powers of primes."""

from etasure.alikeness import class_key
from etasure.arithmetic import primes_of
from etasure.checks import is_within
from etasure.divisible import place_undivided
from etasure.echelons import relations_modulo_prime
from etasure.equal import check_level_and_sum
from etasure.errors import BadLevel, BadNumber, BadPair, BadPower, BadPrime, NotOne
from etasure.tables import one_table
from etasure.terms import check_term, is_term, product_of_terms, twice_of_term

GREATEST_PRIME = 97
GREATEST_LIFT = 20


def check_prime(p):
    """BadPrime unless it is a prime up to 97."""
    if not is_within(p, 2, GREATEST_PRIME) or primes_of(p) != [p]:
        raise BadPrime("p is a prime up to 97")


def check_power(u):
    """BadPower unless it is a power of a prime, from 2 to 97."""
    if not is_within(u, 2, GREATEST_PRIME) or len(primes_of(u)) != 1:
        raise BadPower("u is a power of a prime, from 2 to 97")


def relations_modulo(level, terms, p):
    """The only list of lists from which all x with the sum of x * term divisible by p are made, each in one way."""
    check_level_and_sum(level, terms)
    check_prime(p)
    return relations_modulo_prime(one_table(level, terms).vectors(), len(terms), p)


def unit_modulo(u):
    """The quotient {1: u, p: -(u / p)}, whose row is 1 and then numbers that u divides."""
    check_power(u)
    p = primes_of(u)[0]
    return {1: u, p: -(u // p)}


def lifted(term, u, j):
    """The product of the term and the j-th power of unit_modulo(u)."""
    check_term(term)
    check_power(u)
    if not is_within(j, 0, GREATEST_LIFT):
        raise BadNumber("j is a number from 0 to 20")
    product = product_with_power(term, u, j)
    if not is_term(product):
        raise BadPair("the product is no term")
    return product


def product_with_power(term, u, j):
    """As lifted; it may be no term."""
    unit = unit_modulo(u)
    return product_of_terms(term, (1, {d: j * unit[d] for d in unit}, ()))


def meeting(level, terms, u):
    """The numbers j, one of them 0, for which all lifted terms are of one class at the level; None without any."""
    _check_meeting(level, terms, u)
    return meeting_of(level, terms, u)


def _check_meeting(level, terms, u):
    """BadLevel, BadSum, BadPower as meeting."""
    check_level_and_sum(level, terms)
    check_power(u)
    if level % primes_of(u)[0] != 0:
        raise BadLevel("the prime of u must divide the level")


def meeting_of(level, terms, u):
    """As meeting, of what is known to be right."""
    weights = [twice_of_term(term) for term in terms]
    step = sum(unit_modulo(u).values())
    if not all([(max(weights) - twice) % step == 0 for twice in weights]):
        return None
    lifts = [(max(weights) - twice) // step for twice in weights]
    if not all([j <= GREATEST_LIFT for j in lifts]):
        return None
    products = products_with_powers(terms, u, lifts)
    if not all([is_term(product) for product in products]):
        return None
    keys = [class_key(level, product) for product in products]
    return lifts if all([key == keys[0] for key in keys]) else None


def products_with_powers(terms, u, lifts):
    """The terms, each with its power of unit_modulo(u)."""
    return [product_with_power(term, u, j) for term, j in zip(terms, lifts)]


def first_not_modulo(level, terms, u):
    """The least exponent whose coefficient u does not divide; None if there is none."""
    _check_meeting(level, terms, u)
    lifts = meeting_of(level, terms, u)
    if lifts is None:
        raise NotOne("the terms do not meet modulo u")
    table = one_table(level, products_with_powers(terms, u, lifts))
    place = place_undivided(table.totals(), u)
    return None if place is None else table.exponent(place)
