"""Pieces that stand beside quotients: series of Eisenstein, and parts of quotients."""

from math import gcd, lcm

from etasure.arithmetic import divisors_of, free_product, lcm_of, primes_of
from etasure.checks import GREATEST_LEVEL, check_most, is_pair, is_within
from etasure.classes import far_sum, near_sum, signed_factor
from etasure.eisenstein import eisenstein_series
from etasure.errors import BadPiece, TooMany
from etasure.orders import check_denominator, order_of
from etasure.quotients import is_quotient, quotient_series
from etasure.ratios import least_ratio, ratio_of
from etasure.series import series_spread

GREATEST_SECTION = 60
LAST_NEEDED = 6000
WEIGHTS = {"two": 2, "four": 4, "six": 6}


def is_piece(thing):
    """Whether it is a piece."""
    if not isinstance(thing, tuple) or len(thing) not in (2, 3) or not isinstance(thing[0], str):
        return False
    if len(thing) == 3:
        return thing[0] == "part" and _is_part(thing[1], thing[2])
    if thing[0] == "two":
        return is_within(thing[1], 2, GREATEST_LEVEL)
    return thing[0] in ("four", "six") and is_within(thing[1], 1, GREATEST_LEVEL)


def _is_part(m, pairs):
    """Whether there is a part in m of the quotient with these pairs."""
    if not is_within(m, 2, GREATEST_SECTION) or not isinstance(pairs, tuple):
        return False
    if not all([is_pair(pair) and is_quotient({pair[0]: pair[1]}) for pair in pairs]):
        return False
    if not all([one[0] < other[0] for one, other in zip(pairs, pairs[1:])]):
        return False
    return part_level(m, dict(pairs)) is not None


def part_level(m, quotient):
    """The least level at which the quotient is plain and which all primes of m divide; None if there is none."""
    if near_sum(quotient) != 0 or sum(quotient.values()) % 2 != 0:
        return None
    least = lcm(lcm_of(quotient), lcm_of(primes_of(m)))
    level = least * (24 // gcd(24, far_sum(least, quotient)))
    return level if level <= GREATEST_LEVEL else None


def check_piece(piece):
    """BadPiece unless it is a piece."""
    if not is_piece(piece):
        raise BadPiece("a piece is of one of four kinds: two, four, six, part")


def piece_weight(piece):
    """The weight of the piece."""
    check_piece(piece)
    return weight_of_piece(piece)


def weight_of_piece(piece):
    """As piece_weight, of what is known to be a piece."""
    if piece[0] == "part":
        return sum([r for _, r in piece[2]]) // 2
    return WEIGHTS[piece[0]]


def piece_level(piece):
    """The level of the piece."""
    check_piece(piece)
    return level_of_piece(piece)


def level_of_piece(piece):
    """As piece_level, of what is known to be a piece."""
    if piece[0] == "part":
        return part_level(piece[1], dict(piece[2]))
    return piece[1]


def piece_sign(piece):
    """The sign of the piece: the number D of its character."""
    check_piece(piece)
    return sign_of_piece(piece)


def sign_of_piece(piece):
    """As piece_sign, of what is known to be a piece."""
    if piece[0] == "part":
        return signed_factor(dict(piece[2]))
    return 1


def sign_of_pieces(pieces):
    """The square-free number that is the product of the signs of the pieces but for a square."""
    sign = 1
    for piece in pieces:
        sign = free_product(sign, sign_of_piece(piece))
    return sign


def piece_start(piece):
    """The exponent of the first coefficient of the piece."""
    check_piece(piece)
    return start_of_piece(piece)


def start_of_piece(piece):
    """As piece_start, of what is known to be a piece."""
    if piece[0] == "part":
        return -(-_quotient_start(piece) // piece[1])
    return 0


def _quotient_start(piece):
    """The whole start of the quotient of a part."""
    return sum([d * r for d, r in piece[2]]) // 24


def _first_place(piece):
    """The place, behind the start of its quotient, of the first coefficient of a part."""
    return piece[1] * start_of_piece(piece) - _quotient_start(piece)


def piece_row(piece, most):
    """The coefficients of the piece from its start on."""
    check_piece(piece)
    check_most(most)
    check_reach(piece, most)
    return piece_series(piece, most + 1)


def check_reach(piece, most):
    """TooMany(6000) if the row of the quotient of a part would have to go further."""
    if most > greatest_reach(piece):
        raise TooMany(LAST_NEEDED)


def greatest_reach(piece):
    """The last place, behind the start of the piece, that its quotient's row up to q ** 6000 tells; at most 6000."""
    if piece[0] == "part":
        return (LAST_NEEDED - _first_place(piece)) // piece[1]
    return LAST_NEEDED


def piece_series(piece, size):
    """The first coefficients of the piece from its start on, as many as size tells."""
    if piece[0] == "part":
        first = _first_place(piece)
        return quotient_series(dict(piece[2]), first + piece[1] * (size - 1) + 1)[first::piece[1]]
    kind, d = piece
    series = series_spread(eisenstein_series(weight_of_piece(piece), size), d, size)
    if kind != "two":
        return series
    return [d * x - y for x, y in zip(series, eisenstein_series(2, size))]


def piece_least(piece, c):
    """A ratio that the order of the piece at no cusp with the denominator c is below."""
    check_piece(piece)
    check_denominator(c)
    return least_of_piece(piece, c)


def least_of_piece(piece, c):
    """As piece_least, of what is known to be right."""
    if piece[0] != "part":
        return (0, 1)
    m, quotient = piece[1], dict(piece[2])
    orders = []
    for g in divisors_of(m):
        if gcd(g, c) == 1:
            above, below = order_of(quotient, m * c // g)
            orders.append(ratio_of(g * g * above, m * below))
    return least_ratio(orders)
