"""Classes: which quotients have the same multiplier on all matrices of a level."""

from math import gcd, lcm

from etasure.arithmetic import free_product, inverse_modulo, square_free
from etasure.checks import check_level
from etasure.errors import BadLevel, NotUnit
from etasure.quotients import check_quotient
from etasure.roots import kronecker


def check_borne(level, quotient):
    """BadLevel unless the level bears the quotient."""
    if not all([level % d == 0 for d in quotient]):
        raise BadLevel("all d of the quotient must divide the level")


def check_borne_quotient(level, quotient):
    """BadLevel, BadQuotient unless it is a quotient that the level bears."""
    check_level(level)
    check_quotient(quotient)
    check_borne(level, quotient)


def alike(level, one, other):
    """Whether both have the same weight, and the same multiplier on all upright matrices of the level."""
    exponents = _checked_difference(level, one, other)
    return sum(exponents.values()) == 0 and is_plain(level, exponents) and free_factor(exponents) == 1


def parting(level, one, other):
    """None if both are alike; ("weight",), or a matrix of the level on which their multipliers are unlike."""
    exponents = _checked_difference(level, one, other)
    if sum(exponents.values()) != 0:
        return ("weight",)
    return parting_matrix(level, exponents, free_factor(exponents))


def _checked_difference(level, one, other):
    """The exponents of one divided by other, after all that is wrong has been told."""
    check_level(level)
    check_quotient(one)
    check_quotient(other)
    check_borne(level, one)
    check_borne(level, other)
    return exponents_less(one, other)


def exponents_less(one, other):
    """The exponents, of any size, of one divided by other."""
    exponents = {d: one[d] for d in one}
    for d, r in other.items():
        exponents[d] = exponents.get(d, 0) - r
    return exponents


def near_sum(exponents):
    """The sum of d * r modulo 24, which is the multiplier on T."""
    return sum([d * r for d, r in exponents.items()]) % 24


def far_sum(level, exponents):
    """The sum of (level / d) * r modulo 24, which is, but for its sign, the multiplier on (1, 0, level, 1)."""
    return sum([level // d * r for d, r in exponents.items()]) % 24


def is_plain(level, exponents):
    """Whether the multiplier is 0 on T and on (1, 0, level, 1)."""
    return near_sum(exponents) == 0 and far_sum(level, exponents) == 0


def free_factor(exponents):
    """The square-free number that is the product of all d ** |r| but for a square."""
    free = 1
    for d, r in exponents.items():
        if r % 2 == 1:
            free = free_product(free, square_free(d))
    return free


def signed_factor(exponents):
    """The square-free number, with its sign, of plain_sign; the sum of the exponents is even."""
    free = free_factor(exponents)
    return free if sum(exponents.values()) % 4 == 0 else -free


def parting_matrix(level, exponents, sign):
    """An upright matrix of the level on which what follows is not 0; None if there is none.

    It is the multiplier of the exponents if that is not 0 on T or on (1, 0, level, 1), where d is 1;
    otherwise it is 12 just where the symbol (sign / d) is -1, sign being square-free.
    """
    if near_sum(exponents) != 0:
        return (1, 1, 0, 1)
    if far_sum(level, exponents) != 0:
        return (1, 0, level, 1)
    # It is 0 on T, so it hangs on d modulo the level alone, and it is 0 nowhere else only for a square.
    for d in range(1, level + 1):
        if gcd(d, level) == 1 and kronecker(sign, d) == -1:
            a = inverse_modulo(d, level)
            return (a, (a * d - 1) // level, level, d)
    return None


def class_order(level, quotient):
    """The least k from 1 on such that the k-th power, of weight 0, has the multiplier 0 on all matrices."""
    check_borne_quotient(level, quotient)
    if sum(quotient.values()) != 0:
        raise NotUnit("the weight of the quotient must be 0")
    return order_of_class(level, quotient)


def order_of_class(level, exponents):
    """As class_order, of exponents of any size."""
    near = 24 // gcd(24, near_sum(exponents))
    far = 24 // gcd(24, far_sum(level, exponents))
    squares = 1 if free_factor(exponents) == 1 else 2
    return lcm(near, far, squares)


def plain_sign(level, quotient):
    """The number D whose symbol (D / d) tells the multiplier; None if it hangs on more than d."""
    check_borne_quotient(level, quotient)
    if sum(quotient.values()) % 2 != 0 or not is_plain(level, quotient):
        return None
    return signed_factor(quotient)
