"""Words: matrices as products of powers of T = (1, 1, 0, 1) with S = (0, -1, 1, 0) between them."""

from etasure.checks import is_number_tuple
from etasure.errors import BadWord, TooMany
from etasure.matrices import check_matrix, check_upright

LONGEST_WORD = 6000
LONGEST_CHAIN = 3000


def check_word(word):
    """BadWord unless it is a word of at most 6000 numbers."""
    if not is_number_tuple(word) or not 1 <= len(word) <= LONGEST_WORD:
        raise BadWord("a word is a tuple of 1 to 6000 numbers")


def matrix_of(word):
    """The matrix T ** k0 * S * T ** k1 * S * .. * S * T ** km of a word (k0, k1, .., km)."""
    check_word(word)
    a, b, c, d = 1, word[0], 0, 1
    for k in word[1:]:
        # Times S, then times T ** k.
        a, b, c, d = b, k * b - a, d, k * d - c
    return (a, b, c, d)


def word_of(matrix):
    """A word of just this matrix, with at most 3 numbers more than c has binary digits."""
    check_matrix(matrix)
    a, b, c, d = matrix
    numbers = []
    while c != 0:
        # With k the whole number nearest to a / c the next c is at most half as great.
        k = (2 * a + c) // (2 * c)
        numbers.append(k)
        a, b, c, d = c, d, k * c - a, k * d - b
    if d == 1:
        numbers.append(b)
    else:
        # The negative one of T ** -b: S * T ** 0 * S is the negative one of the identity.
        numbers.extend([-b, 0, 0])
    return tuple(numbers)


def chain_of(matrix):
    """The only word of an upright matrix all of whose numbers but the first and the last are from 2 on."""
    check_upright(matrix)
    chain = chain_within(matrix, LONGEST_CHAIN)
    if chain is None:
        raise TooMany(LONGEST_CHAIN)
    return chain


def chain_within(matrix, most):
    """The chain of an upright matrix; None if it has more than most numbers."""
    a, b, c, d = matrix
    numbers = []
    while c != 0:
        # The number of this turn and the last one are still to come.
        if len(numbers) + 2 > most:
            return None
        k = -(-a // c)
        numbers.append(k)
        a, b, c, d = c, d, k * c - a, k * d - b
    numbers.append(b)
    return tuple(numbers)
