"""What holds at all exponents for sums of mixed terms."""

from etasure.checks import check_level, is_number
from etasure.errors import BadNumber, BadTerm, NotOne, TooMany
from etasure.mixed import (check_bears_mixed, generating_matrices, is_mixed_term, mixed_parts, order_of_mixed,
                           row_of_mixed, sort_key)
from etasure.narrow import narrow_cusps, narrow_index
from etasure.periods import check_period, folded_number
from etasure.quotients import product_of_quotients
from etasure.ratios import least_ratio, ratio_less, ratio_of, ratio_times
from etasure.relations import relations_in
from etasure.sums import GREATEST_DISTANCE
from etasure.tables import empty_table, first_parts_of, stops_between

MOST_MIXED = 20


def _check_terms(level, period, terms):
    """BadLevel, BadPeriod, BadTerm, BadLevel, TooMany(60) unless the level, up to 60, bears all the mixed terms."""
    check_level(level)
    check_period(period)
    if not isinstance(terms, (list, tuple)) or len(terms) > MOST_MIXED:
        raise BadTerm("a list of at most twenty mixed terms is needed")
    if not all([is_mixed_term(period, term) for term in terms]):
        raise BadTerm("all must be mixed terms")
    check_bears_mixed(level, period, terms)


def sort_places(level, period, terms):
    """The sorts, each the ascending list of the places of its terms, by their first places."""
    _check_terms(level, period, terms)
    return _places_of_sorts(level, period, terms)


def _places_of_sorts(level, period, terms):
    """As sort_places, of what is known to be right."""
    matrices = generating_matrices(level)
    sorts = {}
    for place, term in enumerate(terms):
        sorts.setdefault(tuple(sort_key(matrices, period, term)), []).append(place)
    return list(sorts.values())


def sort_bound(level, period, terms):
    """The exponent up to which the coefficients of terms of one sort tell all."""
    _check_terms(level, period, terms)
    if len(_places_of_sorts(level, period, terms)) != 1:
        raise NotOne("there must be a term, and all must be of one sort")
    return _bound_of_sort(level, period, terms)


def _bound_of_sort(level, period, terms):
    """As sort_bound, of what is known to be right."""
    bound = ratio_of(sum(terms[0][1].values()) * narrow_index(level), 24)
    for cusp, width in narrow_cusps(level)[1:]:
        least = least_ratio([order_of_mixed(period, term, cusp) for term in terms])
        bound = ratio_less(bound, ratio_times((width, 1), least))
    return bound


def _sort_tables(level, period, terms):
    """The tables of all sorts, up to their bounds; TooMany(3000) if a bound is too far away."""
    tables = []
    for places in _places_of_sorts(level, period, terms):
        chosen = [terms[place] for place in places]
        first = min([mixed_parts(period, term) for term in chosen])
        tables.append(empty_table(places, first, _bound_of_sort(level, period, chosen), 24 * period))
    for table in tables:
        table.rows.extend([_row_from(period, terms[place], table.first, table.size) for place in table.places])
    return tables


def _row_from(period, term, first, size):
    """The coefficients of the term at the exponents, told by parts, from the first one on."""
    ahead = (mixed_parts(period, term) - first) // (24 * period)
    if ahead >= size:
        return [0] * size
    return [0] * ahead + row_of_mixed(period, term, size - ahead)


def first_mixed(level, period, terms):
    """The least exponent at which the coefficient of the sum of the terms is not 0; None if there is none."""
    _check_terms(level, period, terms)
    firsts = first_parts_of(_sort_tables(level, period, terms))
    if not firsts:
        return None
    whole = 24 * period
    far = min([mixed_parts(period, term) for term in terms]) + whole * GREATEST_DISTANCE
    # No sort ahead of the least of these has a coefficient; from there on those of unlike sorts may cancel.
    for last in stops_between(min(firsts), far, whole):
        found = _parts_found(period, terms, last)
        if found:
            return ratio_of(min(found), whole)
    raise TooMany(GREATEST_DISTANCE)


def _parts_found(period, terms, last):
    """The list of those exponents, told by parts, up to last at which the coefficient of the sum is not 0."""
    whole = 24 * period
    found = {}
    for term in terms:
        start = mixed_parts(period, term)
        if start <= last:
            for n, x in enumerate(row_of_mixed(period, term, (last - start) // whole + 1)):
                found[start + whole * n] = found.get(start + whole * n, 0) + x
    return [parts for parts in found if found[parts] != 0]


def mixed_relations(level, period, terms):
    """The only base in steps (see hermite) of all lists x of numbers for which the sum of x * term is 0."""
    _check_terms(level, period, terms)
    return relations_in(_sort_tables(level, period, terms), len(terms))


def three_terms(period, a, b, c, d):
    """The terms of Weierstrass' three products, whose sum is 0."""
    check_period(period)
    if not all([is_number(x) for x in (a, b, c, d)]):
        raise BadNumber("all four must be numbers")
    terms = []
    for places in ((a + b, a - b, c + d, c - d), (b + c, b - c, a + d, a - d), (c + a, c - a, b + d, b - d)):
        if all([g % period != 0 for g in places]):
            terms.append(_term_of_places(period, places))
    return terms


def _term_of_places(period, places):
    """The mixed term that is the product of E(g) over the places g."""
    number = 1
    product = {}
    for g in places:
        sign, h = folded_number(period, g)
        number *= sign
        product = product_of_quotients(product, {h: 1})
    return (number, {}, product)
