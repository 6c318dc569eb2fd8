"""Which sums of ratios times terms have whole coefficients at all exponents."""

from etasure.arithmetic import lcm_of
from etasure.echelons import dot
from etasure.equal import check_level_and_sum
from etasure.errors import BadRow
from etasure.hermite import elementary_divisors, steps_of
from etasure.ratios import is_ratio, ratio_less, ratio_of, ratio_times
from etasure.relations import free_columns
from etasure.tables import one_table


def is_whole(level, terms, ratios):
    """Whether the sum of ratio * term has whole coefficients at all exponents."""
    check_level_and_sum(level, terms)
    if not isinstance(ratios, (list, tuple)) or len(ratios) != len(terms):
        raise BadRow("as many ratios as terms are needed")
    if not all([is_ratio(ratio) for ratio in ratios]):
        raise BadRow("all must be ratios")
    common = lcm_of([below for _, below in ratios])
    factors = [above * (common // below) for above, below in ratios]
    return all([dot(factors, vector) % common == 0 for vector in one_table(level, terms).vectors()])


def whole_rows(level, terms):
    """Whole lists such that each series of a whole list is in just one way a sum of whole multiples of theirs."""
    check_level_and_sum(level, terms)
    table = one_table(level, terms)
    free = free_columns(table)
    base = steps_of([[vector[place] for place in free] for vector in table.vectors()])
    found = []
    for at in range(len(free)):
        ratios = [(0, 1)] * len(terms)
        for place, ratio in zip(free, _dual_of(base, at)):
            ratios[place] = ratio
        found.append(ratios)
    return found


def _dual_of(base, at):
    """The ratios whose sum of products is 1 with the vector of the base at this place, 0 with all others.

    The base is square and in steps, so they follow from the last one on.
    """
    ratios = []
    for place in range(len(base) - 1, -1, -1):
        row = base[place]
        rest = (1, 1) if place == at else (0, 1)
        for x, ratio in zip(row[place + 1:], ratios):
            rest = ratio_less(rest, ratio_times((x, 1), ratio))
        ratios = [ratio_of(rest[0], rest[1] * row[place])] + ratios
    return ratios


def gaps(level, terms):
    """The orders above 1 of the cyclic groups of which the series of whole lists modulo those of numbers consist."""
    check_level_and_sum(level, terms)
    return [n for n in elementary_divisors(one_table(level, terms).vectors()) if n > 1]
