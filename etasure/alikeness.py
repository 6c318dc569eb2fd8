"""Which terms move alike with all matrices of a level, and how far their coefficients tell all."""

from etasure.arithmetic import divisors_of, free_product
from etasure.checks import check_level
from etasure.classes import exponents_less, far_sum, free_factor, near_sum, parting_matrix, signed_factor
from etasure.cosets import index_of
from etasure.errors import BadLevel, NotOne
from etasure.orders import many_at, width_at
from etasure.pieces import sign_of_pieces
from etasure.ratios import least_ratio, ratio_less, ratio_of, ratio_times
from etasure.sums import check_bears, check_sum
from etasure.terms import check_term, least_of_term, level_of_term, twice_of_term


def same_class(level, one, other):
    """Whether both have equal weights, and the same multiplier on all upright matrices of the level."""
    _check_two(level, one, other)
    return class_key(level, one) == class_key(level, other)


def parted_by(level, one, other):
    """None if both are of one class; ("weight",), or a matrix of the level on which their multipliers are unlike."""
    _check_two(level, one, other)
    if twice_of_term(one) != twice_of_term(other):
        return ("weight",)
    exponents = exponents_less(one[1], other[1])
    return parting_matrix(level, exponents, free_product(signed_factor(exponents), sign_of_pieces(one[2] + other[2])))


def _check_two(level, one, other):
    """BadLevel, BadTerm unless both are terms whose levels divide the level."""
    check_level(level)
    check_term(one)
    check_term(other)
    if level % level_of_term(one) != 0 or level % level_of_term(other) != 0:
        raise BadLevel("the level must be divisible by the levels of both terms")


def class_key(level, term):
    """A tuple that two terms have in common exactly if they are of one class at the level."""
    quotient = term[1]
    # For two terms of equal weights the product of these signs is -1 to the half of the sum of all exponents.
    sign = -1 if sum(quotient.values()) % 4 > 1 else 1
    free = free_product(sign * free_factor(quotient), sign_of_pieces(term[2]))
    return (twice_of_term(term), near_sum(quotient), far_sum(level, quotient), free)


def class_places(level, terms):
    """The classes of the sum, each the ascending list of the places of its terms, by their first places."""
    check_level(level)
    check_sum(terms)
    check_bears(level, terms)
    return places_of_classes(level, terms)


def places_of_classes(level, terms):
    """As class_places, of what is known to be right, and may have more terms."""
    classes = {}
    for place, term in enumerate(terms):
        classes.setdefault(class_key(level, term), []).append(place)
    return list(classes.values())


def check_one(level, terms):
    """NotOne unless there is a term and all are of one class at the level."""
    if len(places_of_classes(level, terms)) != 1:
        raise NotOne("there must be a term, and all must be of one class")


def class_bound(level, terms):
    """The exponent up to which the coefficients of a class tell all."""
    check_level(level)
    check_sum(terms)
    check_bears(level, terms)
    check_one(level, terms)
    return bound_of_class(level, terms)


def bound_of_class(level, terms):
    """As class_bound, of what is known to be right, and may have more terms."""
    bound = ratio_of(twice_of_term(terms[0]) * index_of(level), 24)
    for c in divisors_of(level)[:-1]:
        least = least_ratio([least_of_term(term, c) for term in terms])
        bound = ratio_less(bound, ratio_times((many_at(level, c) * width_at(level, c), 1), least))
    return bound
