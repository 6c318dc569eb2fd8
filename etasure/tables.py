"""Tables of the coefficients of the classes of a sum, as far as they tell all."""

from etasure.alikeness import bound_of_class, check_one, places_of_classes
from etasure.errors import TooMany
from etasure.ratios import ratio_of
from etasure.sums import GREATEST_DISTANCE
from etasure.terms import row_of_term, start_parts


class Table:
    """The coefficients of terms of one class.

    places are those of the terms in the sum; first is 24 times the least start, size tells at how many
    exponents from there on, each 1 above the one ahead, coefficients are kept; rows are those of the terms.
    """

    def __init__(self, places, first, size):
        self.places = places
        self.first = first
        self.size = size
        self.rows = []

    def exponent(self, n):
        """The n-th exponent, a ratio."""
        return ratio_of(self.first + 24 * n, 24)

    def vectors(self):
        """For each exponent the list of the coefficients of all terms."""
        return [[row[n] for row in self.rows] for n in range(self.size)]

    def totals(self):
        """For each exponent the coefficient of the sum of the terms."""
        return [sum([row[n] for row in self.rows]) for n in range(self.size)]


def class_tables(level, terms):
    """The tables of all classes of the sum, up to their bounds; TooMany if a bound is too far away."""
    tables = []
    for places in places_of_classes(level, terms):
        chosen = [terms[place] for place in places]
        first = min([start_parts(term) for term in chosen])
        above, below = bound_of_class(level, chosen)
        if 24 * above - first * below > 24 * GREATEST_DISTANCE * below:
            raise TooMany(GREATEST_DISTANCE)
        tables.append(Table(places, first, max(0, (24 * above - first * below) // (24 * below) + 1)))
    for table in tables:
        table.rows.extend([row_from(terms[place], table.first, table.size) for place in table.places])
    return tables


def row_from(term, first, size):
    """The coefficients of the term at the exponents from first / 24 on, where it is 0 ahead of its start."""
    ahead = (start_parts(term) - first) // 24
    if ahead >= size:
        return [0] * size
    return [0] * ahead + row_of_term(term, size - ahead - 1)


def one_table(level, terms):
    """The table of a sum that is one class; NotOne, TooMany."""
    check_one(level, terms)
    return class_tables(level, terms)[0]


def negated(terms):
    """The list of the negative terms."""
    return [(-number, quotient, pieces) for number, quotient, pieces in terms]
