"""Linear relations between the columns of a table of whole numbers, by ratios and modulo primes.

A table is told by its vectors, its rows, one after another; width is the number of its columns.
"""

from math import lcm

from etasure.arithmetic import greatest_divisor, inverse_modulo
from etasure.hermite import less_times, place_of_head, steps_of, sublattice
from etasure.ratios import ratio_of


def echelon_of(vectors, width):
    """(rows, used): whole rows that make up the same as the vectors, and the places of vectors that are enough.

    rows is a dict from the place of the first number but 0 of each, where all others have 0, to it.
    """
    rows = {}
    used = []
    kernel = kernel_of(rows, width)
    for at, vector in enumerate(vectors):
        if not kernel:
            break
        # A vector that is new has a product with some relation between the columns that is not 0.
        if all([dot(vector, relation) == 0 for relation in kernel]):
            continue
        used.append(at)
        for place in rows:
            vector = cleared(vector, rows[place], place)
        head = place_of_head(vector)
        rows = {place: cleared(rows[place], vector, head) for place in rows}
        rows[head] = vector
        kernel = kernel_of(rows, width)
    return rows, used


def dot(one, other):
    """The sum of the products of both, number by number."""
    return sum([x * y for x, y in zip(one, other)])


def cleared(vector, row, place):
    """A multiple of the vector, less one of the row, with 0 at the place, and no common divisor."""
    if vector[place] == 0:
        return vector
    lead, factor = row[place], vector[place]
    told = [lead * x - factor * y for x, y in zip(vector, row)]
    common = max(1, greatest_divisor(told))
    return [x // common for x in told]


def kernel_of(rows, width):
    """For each column without a head, a whole relation between it and columns with heads."""
    return [relation_at(rows, width, place) for place in range(width) if place not in rows]


def relation_at(rows, width, place):
    """A whole relation between the column at the place, one without a head, and columns with heads."""
    common = 1
    for head in rows:
        if rows[head][place] != 0:
            common = lcm(common, rows[head][head])
    relation = [0] * width
    relation[place] = common
    for head in rows:
        relation[head] = -rows[head][place] * (common // rows[head][head])
    return relation


def ratios_by(rows, count):
    """The ratios, 0 where no head is, whose sum of products with the columns below count is the column at count.

    rows are those of an echelon in which that column has no head.
    """
    ratios = [(0, 1)] * count
    for place in rows:
        lead, factor = rows[place][place], rows[place][count]
        ratios[place] = ratio_of(factor, lead) if lead > 0 else ratio_of(-factor, -lead)
    return ratios


def parts_of_target(columns, target):
    """The dict from places of columns to ratios for which the sum of ratio * column is target; None without any.

    Of many columns only as many are taken as it needs: each is one on which something that is 0 on all
    that are taken, but not on target, is not 0 either. Where there is none left, target is no such sum.
    """
    rows = {}
    taken = []
    rest = list(target)
    while not all([x == 0 for x in rest]):
        place = place_of_head(rest)
        test = relation_at(rows, len(target), place)
        new = first_not_zero([dot(test, column) for column in columns])
        if new is None:
            return None
        taken.append(new)
        vector = columns[new]
        for head in rows:
            vector = cleared(vector, rows[head], head)
        rows = {head: cleared(rows[head], vector, place) for head in rows}
        rows[place] = vector
        rest = cleared(rest, vector, place)
    # At the places of the heads those taken are independent, and tell all.
    vectors = [[columns[at][place] for at in taken] + [target[place]] for place in rows]
    ratios = ratios_by(echelon_of(vectors, len(taken) + 1)[0], len(taken))
    return {at: ratio for at, ratio in zip(taken, ratios)}


def first_not_zero(numbers):
    """The place of the first number that is not 0; None if there is none."""
    for place, x in enumerate(numbers):
        if x != 0:
            return place
    return None


def whole_relations(vectors, width):
    """The base in steps (see hermite) of all lists of whole numbers that have the product 0 with all vectors."""
    # With the columns turned around, each column without a head belongs to those that stand behind it.
    turned, _ = echelon_of([vector[::-1] for vector in vectors], width)
    rows = {width - 1 - head: turned[head][::-1] for head in turned}
    free = [place for place in range(width) if place not in rows]
    base = [[1 if at == other else 0 for at in free] for other in free]
    for head in rows:
        factors = [rows[head][place] for place in free]
        worths = [dot(factors, vector) for vector in base]
        if not all([worth % rows[head][head] == 0 for worth in worths]):
            base = steps_of(sublattice(base, worths, abs(rows[head][head])))
    return [_filled(vector, free, rows, width) for vector in base]


def _filled(vector, free, rows, width):
    """The relation that has the numbers of the vector at the free places."""
    relation = [0] * width
    for place, x in zip(free, vector):
        relation[place] = x
    for head in rows:
        relation[head] = -dot([rows[head][place] for place in free], vector) // rows[head][head]
    return relation


def relations_modulo_prime(vectors, width, p):
    """The only list of lists from which all relations between the columns modulo p are made, each in one way.

    Each has 1 for its first number but 0, at a later place than the list ahead; all others have 0 there.
    """
    rows = {}
    for vector in vectors:
        rest = [x % p for x in vector[::-1]]
        for head in rows:
            rest = [x % p for x in less_times(rest, rest[head], rows[head])]
        if any([x != 0 for x in rest]):
            new = place_of_head(rest)
            factor = inverse_modulo(rest[new], p)
            rest = [factor * x % p for x in rest]
            rows = {head: [x % p for x in less_times(rows[head], rows[head][new], rest)] for head in rows}
            rows[new] = rest
    found = []
    for place in range(width - 1, -1, -1):
        if place not in rows:
            relation = [-rows[at][place] % p if at in rows else 0 for at in range(width)]
            relation[place] = 1
            found.append(relation[::-1])
    return found
