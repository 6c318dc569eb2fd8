"""Forms in 4, 8 or 12 numbers whose ways sums of powers of divisors tell."""

from math import isqrt

from etasure.arithmetic import divisors_of
from etasure.checks import GREATEST_LEVEL, is_within
from etasure.eisenstein import FACTORS, GREATEST_DIVIDED, divisor_sum
from etasure.errors import BadForm, BadNumber, NotDivided, NotSquare, TooMany
from etasure.forms import check_form, form_term, has_level
from etasure.ratios import ratio_less, ratio_of, ratio_plus, ratio_times
from etasure.relations import combination
from etasure.terms import level_of_term

KINDS = {4: "two", 8: "four", 12: "six"}


def by_divisors(form):
    """The pairs (ratio, d) for which the ways are the sum of ratio * divisor_sum(n / d, f); None if there are none."""
    _check_square(form)
    return _pairs_of_form(form)


def _check_square(form):
    """BadForm unless it is a form in 4, 8 or 12 numbers; NotSquare unless their product is a square."""
    check_form(form)
    if len(form) not in KINDS:
        raise BadForm("the form must have 4, 8 or 12 numbers")
    product = 1
    for a in form:
        product *= a
    if isqrt(product) * isqrt(product) != product:
        raise NotSquare("the product of the numbers of the form must be a square")


def _pairs_of_form(form):
    """As by_divisors, of what is known to be right."""
    target = form_term(form)
    level = level_of_term(target)
    kind = KINDS[len(form)]
    divisors = divisors_of(level)
    # The series E2 alone is no piece: what stands for it is d * E2 in q ** d, less it.
    chosen = divisors[1:] if kind == "two" else divisors
    ratios = combination(level, target, [(1, {}, ((kind, d),)) for d in chosen])
    if ratios is None:
        return None
    factor = (FACTORS[len(form) // 2], 1)
    found = {d: ratio_times(factor, ratio) for d, ratio in zip(chosen, ratios)}
    if kind == "two":
        first = (0, 1)
        for ratio in found.values():
            first = ratio_less(first, ratio)
        found = {d: ratio_times((d, 1), found[d]) for d in found}
        found[1] = first
    return [(found[d], d) for d in divisors if found[d][0] != 0]


def divided_count(form, n):
    """In how many ways the form is n, told by divisors."""
    _check_square(form)
    # What is wrong with n is told ahead of a level that is too great.
    is_borne = has_level(form)
    pairs = _pairs_of_form(form) if is_borne else []
    if pairs is None:
        raise NotDivided("the ways are not told by divisors")
    if not is_within(n, 1, GREATEST_DIVIDED):
        raise BadNumber("n is a number from 1 to 999999")
    if not is_borne:
        raise TooMany(GREATEST_LEVEL)
    count = (0, 1)
    for (above, below), d in pairs:
        if n % d == 0:
            count = ratio_plus(count, ratio_of(above * divisor_sum(n // d, len(form) // 2 - 1), below))
    return count[0]
