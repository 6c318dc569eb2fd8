"""Which sums are 0 at all exponents, and which are equal; papers that show it."""

from etasure.checks import check_level, is_number_tuple
from etasure.errors import TooMany
from etasure.pieces import LAST_NEEDED, greatest_reach
from etasure.ratios import is_ratio, ratio_of
from etasure.sums import GREATEST_DISTANCE, check_bears, check_sum, coefficients_by_parts
from etasure.tables import class_tables, first_parts_of, negated, stops_between
from etasure.terms import start_parts


def check_level_and_sum(level, terms):
    """BadLevel, BadSum unless it is a level that bears the sum."""
    check_level(level)
    check_sum(terms)
    check_bears(level, terms)


def check_two_sums(level, one, other):
    """BadLevel, BadSum unless both are sums that the level bears."""
    check_level(level)
    check_sum(one)
    check_sum(other)
    check_bears(level, one)
    check_bears(level, other)


def first_exponent(level, terms):
    """The least exponent at which the coefficient of the sum is not 0; None if there is none."""
    check_level_and_sum(level, terms)
    return least_exponent(level, terms)


def is_zero(level, terms):
    """Whether the coefficients of the sum are 0 at all exponents."""
    check_level_and_sum(level, terms)
    return is_zero_sum(level, terms)


def is_zero_sum(level, terms):
    """As is_zero, of what is known to be right, and may have more terms and greater numbers."""
    return not first_parts_of(class_tables(level, terms))


def first_unlike(level, one, other):
    """The least exponent at which both sums have unlike coefficients; None if there is none."""
    check_two_sums(level, one, other)
    return least_exponent(level, list(one) + negated(other))


def least_exponent(level, terms):
    """As first_exponent, of what is known to be right, and may have more terms."""
    firsts = first_parts_of(class_tables(level, terms))
    if not firsts:
        return None
    far = min([start_parts(term) for term in terms]) + 24 * GREATEST_DISTANCE
    known = min([start_parts(term) + 24 * _greatest_place(term) + 23 for term in terms])
    # No class ahead of the least of these has a coefficient; from there on those of unlike classes may cancel.
    for last in stops_between(min(firsts), min(far, known), 24):
        found = coefficients_by_parts(terms, last)
        if found:
            return ratio_of(min(found), 24)
    raise TooMany(GREATEST_DISTANCE if far <= known or min(firsts) > far else LAST_NEEDED)


def _greatest_place(term):
    """The last place, behind the start of the term, that needs no row of a part beyond q ** 6000."""
    return min([greatest_reach(piece) for piece in term[2]] + [LAST_NEEDED])


def sum_paper(level, terms):
    """A paper that shows that the sum is 0, or where it is not."""
    check_level_and_sum(level, terms)
    exponent = least_exponent(level, terms)
    if exponent is None:
        return tuple([tuple(table.places) for table in class_tables(level, terms)])
    return exponent


def is_sum_paper(level, terms, thing):
    """Whether it is a paper of the sum at the level."""
    check_level_and_sum(level, terms)
    tables = class_tables(level, terms)
    if is_ratio(thing):
        return _is_shown_at(terms, thing)
    if not isinstance(thing, tuple) or not all([is_number_tuple(group) for group in thing]):
        return False
    return _is_grouping(thing, len(terms)) and all([_is_zero_group(tables, group) for group in thing])


def _is_shown_at(terms, exponent):
    """Whether the coefficient of the sum at the exponent, which may be no more than 3000 away, is not 0."""
    above, below = exponent
    if not terms or 24 % below != 0:
        return False
    parts = 24 // below * above
    # Only terms that have the exponent matter.
    chosen = [term for term in terms if (parts - start_parts(term)) % 24 == 0]
    if parts - min([start_parts(term) for term in terms]) > 24 * GREATEST_DISTANCE or not are_known(chosen, parts):
        return False
    return parts in coefficients_by_parts(chosen, parts)


def are_known(terms, last):
    """Whether the coefficients up to last / 24 need no row of a part beyond q ** 6000."""
    return all([(last - start_parts(term)) // 24 <= _greatest_place(term) for term in terms])


def _is_grouping(groups, count):
    """Whether the tuples of numbers hold each place below count just once, each of them ascending and not empty."""
    places = [place for group in groups for place in group]
    if sorted(places) != list(range(count)):
        return False
    return all([len(group) > 0 and list(group) == sorted(group) for group in groups])


def _is_zero_group(tables, group):
    """Whether the places are of one class whose terms there are together 0 at all exponents."""
    for table in tables:
        if all([place in table.places for place in group]):
            rows = [table.rows[table.places.index(place)] for place in group]
            return all([sum([row[n] for row in rows]) == 0 for n in range(table.size)])
    return False
