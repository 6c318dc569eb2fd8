"""Products of long rows of coefficients, quickly.

Here size tells how many coefficients are wanted, from that of q ** 0 on.
"""


def series_times(one, other, size):
    """The product of both, whose coefficients beyond those given are taken for 0.

    The lists are read as figures of two great numbers, as Python multiplies those quickly.
    """
    one, other = one[:size], other[:size]
    bits = _greatest_length(one) + _greatest_length(other) + len(one).bit_length() + 2
    width = bits // 4 + 1
    worth = _packed(one, width) * _packed(other, width)
    return _unpacked(worth, width, size)


def _greatest_length(row):
    """The most binary digits of a number of the row."""
    return max([abs(x).bit_length() for x in row])


def _packed(row, width):
    """The number whose figures are those of the row, each as many hexadecimal figures wide."""
    return _joined_figures([max(x, 0) for x in row], width) - _joined_figures([max(-x, 0) for x in row], width)


def _joined_figures(row, width):
    """As _packed, for numbers not below 0."""
    return int("".join([f"{x:x}".zfill(width) for x in row[::-1]]), 16)


def _unpacked(worth, width, size):
    """The row that is packed in the number, its first numbers."""
    # With the half added to each, none is below 0.
    half = 1 << (4 * width - 1)
    worth += _joined_figures([half] * size, width)
    rest = worth & ((1 << (4 * width * size)) - 1)
    figures = f"{rest:x}".zfill(width * size)
    return [int(figures[end - width:end], 16) - half for end in range(width * size, 0, -width)]


def series_spread(row, d, size):
    """The row in q ** d."""
    spread = [0] * size
    for n, x in enumerate(row[:(size - 1) // d + 1]):
        spread[d * n] = x
    return spread


def eta_power_series(r, size):
    """The r-th power of the product of (1 - q ** n) over all n from 1 on.

    With a Euler's row, that of the product, and b the power, q * b' * a is r * q * a' * b. So n * b[n]
    is the sum of ((r + 1) * i - n) * a[i] * b[n - i] over i from 1 on; and few of the a[i] are not 0.
    """
    terms = _pentagonal_terms(size)
    power = [1]
    for n in range(1, size):
        total = 0
        for i, x in terms:
            if i > n:
                break
            total += ((r + 1) * i - n) * x * power[n - i]
        power.append(total // n)
    return power


def _pentagonal_terms(size):
    """The ascending list of the pairs (exponent, coefficient) of Euler's row, but for the first one."""
    terms = []
    k = 1
    while k * (3 * k - 1) // 2 < size:
        sign = -1 if k % 2 == 1 else 1
        terms.append((k * (3 * k - 1) // 2, sign))
        terms.append((k * (3 * k + 1) // 2, sign))
        k += 1
    return terms
