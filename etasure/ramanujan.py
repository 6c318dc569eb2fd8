"""Identities of Ramanujan's kind: progressions that are sums of ratios times quotients."""

from etasure.alikeness import class_key
from etasure.arithmetic import divisors_of, lcm_of
from etasure.echelons import parts_of_target
from etasure.equal import is_zero_sum
from etasure.lattice import quotients_in
from etasure.progress import progression_term
from etasure.quotients import is_quotient, pairs_of
from etasure.ratios import is_ratio, ratio_of
from etasure.tables import one_table
from etasure.terms import least_of_term, level_of_term, start_parts, twice_of_term


def spelled(quotient, m, t):
    """A spelling of the progression by quotients of its class and not below its orders; None if there is none."""
    term = progression_term(quotient, m, t)
    level = level_of_term(term)
    candidates = _candidates(level, term)
    rows = one_table(level, [term] + candidates).rows
    parts = parts_of_target(rows[1:], rows[0])
    if parts is None:
        return None
    return [(parts[at], candidates[at][1]) for at in sorted(parts) if parts[at][0] != 0]


def _candidates(level, term):
    """All quotients, as terms, of the class of the term whose orders are nowhere below its own."""
    lows = {c: least_of_term(term, c) for c in divisors_of(level)}
    # At infinity the term begins at n = 0, which is never below what is told of the cusps of its piece.
    lows[level] = ratio_of(start_parts(term), 24)
    key = class_key(level, term)
    found = [(1, quotient, ()) for quotient in quotients_in(level, twice_of_term(term), lows)]
    return [candidate for candidate in found if class_key(level, candidate) == key]


def is_spelling(quotient, m, t, thing):
    """Whether it is a spelling of the progression, by quotients of any weight and class."""
    term = progression_term(quotient, m, t)
    level = level_of_term(term)
    if not _has_form(level, thing):
        return False
    common = lcm_of([below for (_, below), _ in thing])
    terms = [(-above * (common // below), spelling, ()) for (above, below), spelling in thing]
    return is_zero_sum(level, [(common, term[1], term[2])] + terms)


def _has_form(level, thing):
    """Whether it is a list of pairs of a ratio but 0 and a quotient of the level, the quotients ascending."""
    if not isinstance(thing, (list, tuple)) or not all([_is_pair(level, pair) for pair in thing]):
        return False
    keys = [pairs_of(quotient) for _, quotient in thing]
    return all([one < other for one, other in zip(keys, keys[1:])])


def _is_pair(level, thing):
    """Whether it is a pair of a ratio but 0 and a quotient that the level bears."""
    if not isinstance(thing, tuple) or len(thing) != 2:
        return False
    ratio, quotient = thing
    return is_ratio(ratio) and ratio[0] != 0 and is_quotient(quotient) and all([level % d == 0 for d in quotient])
