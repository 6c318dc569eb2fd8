"""Towers: the numbers of partitions along powers of 5 and 7, as sums of powers of one quotient.

With l the prime and h the quotient, a step takes of a series the coefficients of q ** (l * n), as q ** n,
that is, the l-th part of the sum of what it is at (tau + j) / l. The l values of h there are the roots of an
equation whose coefficients are sums of powers of h, too. So what the steps make of h ** i follows, for
greater i, from what they make of the l powers ahead.
"""

from etasure.arithmetic import greatest_divisor
from etasure.checks import is_number, is_number_list, is_within
from etasure.errors import BadPrime, BadRow, BadStep
from etasure.quotients import quotient_series
from etasure.series import series_times

EXPONENTS = {5: 6, 7: 4}
GREATEST_STEPS = {5: 4, 7: 3}
MOST_POWERS = 40


def tower(prime, k):
    """The numbers x1, x2, .. for which the sum of xi * h ** i tells the numbers of partitions along prime ** k."""
    _check_prime(prime)
    if not is_within(k, 1, GREATEST_STEPS[prime]):
        raise BadStep("k is a number from 1 to 4 for 5, from 1 to 3 for 7")
    numbers = [1]
    for step in range(k):
        numbers = _stepped(prime, step, numbers)
    return numbers[1:]


def _check_prime(prime):
    """BadPrime unless it is 5 or 7."""
    if not is_number(prime) or prime not in EXPONENTS:
        raise BadPrime("the prime is 5 or 7")


def tower_content(prime, k):
    """The greatest number that divides all these numbers of partitions."""
    return greatest_divisor(tower(prime, k))


def tower_step(prime, k, row):
    """The list that the step from k to k + 1 makes of the sum of the numbers of the row times h, h ** 2, .."""
    _check_prime(prime)
    if not is_number(k) or k < 0:
        raise BadStep("k is a number from 0 on")
    if not is_number_list(row) or not 1 <= len(row) <= MOST_POWERS:
        raise BadRow("a list of one to forty numbers is needed")
    return _stepped(prime, k, [0] + list(row))[1:]


def _stepped(prime, k, numbers):
    """What the step makes of the sum of xi * h ** i, i from 0 on, as such numbers without zeros at the end."""
    images = _images(prime, k % 2 == 0, len(numbers))
    total = [0] * max([len(image) for image in images])
    for x, image in zip(numbers, images):
        for at, y in enumerate(image):
            total[at] += x * y
    while total and total[-1] == 0:
        total.pop()
    return total


def _images(prime, is_even, count):
    """What the step makes of h ** 0, h ** 1, .., as many as count tells, as numbers by powers of h."""
    start = (prime * prime - 1) // 24
    size = prime * prime + start + 1
    basis = _powers_of_h(prime, size, size)
    powers = _powers_of_h(prime, prime + 1, prime * size)
    plain = _first_images(prime, powers, [1], basis)
    roots = _root_sums(prime, plain)
    images = plain
    if is_even:
        factor = [0] * start + quotient_series({1: -1, prime * prime: 1}, prime * size - start)
        images = _first_images(prime, powers, factor, basis)
    while len(images) < count:
        image = []
        for s in range(1, prime + 1):
            product = _product(roots[s], images[-s])
            image = _plus(image, product if s % 2 == 1 else [-x for x in product])
        images.append(image)
    return images[:count]


def _powers_of_h(prime, count, size):
    """The rows, of this size, of h ** 0, h ** 1, .., as many as count tells."""
    exponent = EXPONENTS[prime]
    series = [0] + quotient_series({1: -exponent, prime: exponent}, size - 1)
    powers = [[1] + [0] * (size - 1)]
    while len(powers) < count:
        powers.append(series_times(powers[-1], series, size))
    return powers


def _first_images(prime, powers, factor, basis):
    """What is made of each of the powers, multiplied by the factor, as numbers by powers of h.

    Of h ** i it comes to h ** (prime * i) at the most, with a factor to as many more as that begins at. The
    basis are as many powers of h as are needed.
    """
    images = []
    for power in powers:
        rest = series_times(power, factor, len(power))[::prime]
        image = []
        for at, row in enumerate(basis):
            image.append(rest[at])
            rest = [x - image[at] * y for x, y in zip(rest, row)]
        images.append(image)
    return images


def _root_sums(prime, images):
    """For s from 0 to the prime the sum of all products of s of the values of h, as numbers by powers of h.

    The sums of their i-th powers are the prime times the images of h ** i (Newton's identities).
    """
    sums = [[1]]
    for s in range(1, prime + 1):
        total = []
        for i in range(1, s + 1):
            product = _product(sums[s - i], images[i])
            total = _plus(total, product if i % 2 == 1 else [-x for x in product])
        sums.append([prime * x // s for x in total])
    return sums


def _plus(one, other):
    """The sum of two lists of numbers by powers of h, without zeros at the end."""
    size = max(len(one), len(other))
    total = [x + y for x, y in zip(one + [0] * (size - len(one)), other + [0] * (size - len(other)))]
    while total and total[-1] == 0:
        total.pop()
    return total


def _product(one, other):
    """The product of two lists of numbers by powers of h."""
    product = [0] * (len(one) + len(other))
    for at, x in enumerate(one):
        for place, y in enumerate(other):
            product[at + place] += x * y
    return product
