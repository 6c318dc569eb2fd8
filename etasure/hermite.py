"""Lattices of whole vectors: the only base in steps (Hermite), sublattices, elementary divisors (Smith).

A base in steps is a list of vectors in each of which the first number but 0, its head, is above 0 and
stands at a later place than that of the vector ahead; the vectors ahead have at this place a number
from 0 on that is below the head.
"""

from math import gcd, lcm


def steps_of(vectors):
    """The base in steps of all sums of whole multiples of the vectors."""
    heads = {}
    for vector in vectors:
        _put_in(heads, list(vector))
    return [_lowered(heads, place) for place in sorted(heads)]


def _put_in(heads, vector):
    """Make the base, told by the places of the heads, hold one more vector."""
    for place in range(len(vector)):
        if vector[place] == 0:
            continue
        if place not in heads:
            heads[place] = vector if vector[place] > 0 else [-x for x in vector]
            return
        row = heads[place]
        while vector[place] != 0:
            row, vector = vector, less_times(row, row[place] // vector[place], vector)
        heads[place] = row if row[place] > 0 else [-x for x in row]
        # What stands further on is kept small, so that numbers do not grow beyond need.
        heads[place] = _lowered(heads, place)
        vector = _lowered_vector(heads, vector, place + 1)


def less_times(one, times, other):
    """The vector one less a multiple of other."""
    return [x - times * y for x, y in zip(one, other)]


def _lowered(heads, place):
    """The vector of the base with this head, made small at the places of later heads."""
    return _lowered_vector(heads, heads[place], place + 1)


def _lowered_vector(heads, vector, first):
    """The vector made small at the places of heads from the first one on."""
    for place in range(first, len(vector)):
        if place in heads:
            times = vector[place] // heads[place][place]
            if times != 0:
                vector = less_times(vector, times, heads[place])
    return vector


def sublattice(base, worths, m):
    """Vectors that make up the part of a lattice on which a linear function is divisible by m.

    worths are those of the function on the vectors of the base.
    """
    vectors = [list(vector) for vector in base]
    rests = [worth % m for worth in worths]
    places = [at for at in range(len(rests)) if rests[at] != 0]
    while len(places) > 1:
        least = min([rests[at] for at in places])
        chosen = rests.index(least)
        for at in places:
            if at != chosen:
                vectors[at] = less_times(vectors[at], rests[at] // least, vectors[chosen])
                rests[at] %= least
        places = [at for at in places if rests[at] != 0]
    for at in places:
        times = m // gcd(m, rests[at])
        vectors[at] = [times * x for x in vectors[at]]
    return vectors


def parts_in(base, vector):
    """The list of the multiples of the vectors of a base in steps whose sum is the vector; None if there is none."""
    parts = []
    for row in base:
        place = place_of_head(row)
        if vector[place] % row[place] != 0:
            return None
        parts.append(vector[place] // row[place])
        vector = less_times(vector, parts[-1], row)
    if not all([x == 0 for x in vector]):
        return None
    return parts


def place_of_head(vector):
    """The place of the first number but 0."""
    place = 0
    while vector[place] == 0:
        place += 1
    return place


def transposed(vectors):
    """The columns of a table whose rows are the vectors."""
    if not vectors:
        return []
    return [[vector[at] for vector in vectors] for at in range(len(vectors[0]))]


def elementary_divisors(vectors):
    """Those numbers but 0 of which Smith's form of the table consists, each dividing the next one."""
    table = steps_of(transposed(steps_of(vectors)))
    # Now it is square; each turn makes the heads divide more of what stands beside them.
    while not all([_is_single(row) for row in table]):
        table = steps_of(transposed(table))
    numbers = [max(row) for row in table]
    for at in range(len(numbers)):
        for later in range(at + 1, len(numbers)):
            one, other = numbers[at], numbers[later]
            numbers[at], numbers[later] = gcd(one, other), lcm(one, other)
    return numbers


def _is_single(row):
    """Whether just one number of the row is not 0."""
    return len([x for x in row if x != 0]) == 1
