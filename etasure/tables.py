"""Tables of the coefficients of the classes of a sum, as far as they tell all."""

from etasure.alikeness import bound_of_class, check_one, places_of_classes
from etasure.errors import TooMany
from etasure.ratios import ratio_of
from etasure.sums import GREATEST_DISTANCE
from etasure.terms import row_of_term, start_parts


class Table:
    """The coefficients of terms of one class.

    places are those of the terms in the sum; exponents are told by how many parts they have, whole of
    which make 1; first is the least start, size tells at how many exponents from there on, each 1 above
    the one ahead, coefficients are kept; rows are those of the terms.
    """

    def __init__(self, places, first, size, whole):
        self.places = places
        self.first = first
        self.size = size
        self.whole = whole
        self.rows = []

    def exponent(self, n):
        """The n-th exponent, a ratio."""
        return ratio_of(self.first + self.whole * n, self.whole)

    def vectors(self):
        """For each exponent the list of the coefficients of all terms."""
        return [[row[n] for row in self.rows] for n in range(self.size)]

    def totals(self):
        """For each exponent the coefficient of the sum of the terms."""
        return [sum([row[n] for row in self.rows]) for n in range(self.size)]

    def first_parts(self):
        """The parts of the least exponent at which the coefficient of the sum is not 0, as a list; [] if none is."""
        totals = self.totals()
        return [self.first + self.whole * n for n in range(self.size) if totals[n] != 0][:1]


def empty_table(places, first, bound, whole):
    """A table without rows up to a bound, a ratio; TooMany if that is too far away."""
    above, below = bound
    distance = whole * above - first * below
    if distance > whole * GREATEST_DISTANCE * below:
        raise TooMany(GREATEST_DISTANCE)
    return Table(places, first, max(0, distance // (whole * below) + 1), whole)


def class_tables(level, terms):
    """The tables of all classes of the sum, up to their bounds; TooMany if a bound is too far away."""
    tables = []
    for places in places_of_classes(level, terms):
        chosen = [terms[place] for place in places]
        first = min([start_parts(term) for term in chosen])
        tables.append(empty_table(places, first, bound_of_class(level, chosen), 24))
    for table in tables:
        table.rows.extend([row_from(terms[place], table.first, table.size) for place in table.places])
    return tables


def row_from(term, first, size):
    """The coefficients of the term at the exponents from first / 24 on, where it is 0 ahead of its start."""
    ahead = (start_parts(term) - first) // 24
    if ahead >= size:
        return [0] * size
    return [0] * ahead + row_of_term(term, size - ahead - 1)


def one_table(level, terms):
    """The table of a sum that is one class; NotOne, TooMany."""
    check_one(level, terms)
    return class_tables(level, terms)[0]


def first_parts_of(tables):
    """The parts of the least exponents at which the sums of classes are not 0, of those that are not 0."""
    found = []
    for table in tables:
        found.extend(table.first_parts())
    return found


def stops_between(first, last, whole):
    """The ascending list of some parts of exponents from first to last, ever further apart; [] if there are none."""
    stops = []
    step = 0
    while first <= last:
        stops.append(min(first + step, last))
        if stops[-1] == last:
            break
        step = 2 * step + whole
    return stops


def negated(terms):
    """The list of the negative terms."""
    return [(-number, quotient, pieces) for number, quotient, pieces in terms]
