"""All linear relations between terms that hold at all exponents."""

from etasure.checks import check_level
from etasure.echelons import echelon_of, kernel_of, ratios_by, whole_relations
from etasure.equal import check_level_and_sum
from etasure.hermite import place_of_head, transposed
from etasure.sums import check_bears, check_sum
from etasure.tables import class_tables, one_table
from etasure.terms import check_term


def relations(level, terms):
    """The only base in steps (see hermite) of all lists x of numbers for which the sum of x * term is 0."""
    check_level_and_sum(level, terms)
    return relations_in(class_tables(level, terms), len(terms))


def relations_in(tables, count):
    """As relations, of as many terms as count tells, with the tables of their classes."""
    found = []
    for table in tables:
        for relation in whole_relations(table.vectors(), len(table.places)):
            numbers = [0] * count
            for place, x in zip(table.places, relation):
                numbers[place] = x
            found.append(numbers)
    return sorted(found, key=place_of_head)


def free_places(level, terms):
    """The places of the terms that are not a sum of ratios times terms ahead of them."""
    check_level_and_sum(level, terms)
    found = []
    for table in class_tables(level, terms):
        found.extend([table.places[at] for at in free_columns(table)])
    return sorted(found)


def free_columns(table):
    """The ascending list of those columns of a table that do not hang on columns ahead of them."""
    rows, _ = echelon_of(table.vectors(), len(table.places))
    return sorted(rows)


def sum_rank(level, terms):
    """How many free places there are."""
    return len(free_places(level, terms))


def combination(level, target, terms):
    """The ratios, 0 at places that are not free, for which the sum of ratio * term is target; None without any."""
    table = _joint_table(level, target, terms)
    count = len(terms)
    rows, _ = echelon_of(table.vectors(), count + 1)
    if count in rows:
        return None
    return ratios_by(rows, count)


def _joint_table(level, target, terms):
    """The table of the terms and, last of all, target, after all that is wrong has been told."""
    check_level(level)
    check_term(target)
    check_sum(terms)
    joint = list(terms) + [target]
    check_bears(level, joint)
    return one_table(level, joint)


def against(level, target, terms):
    """Numbers at exponents, as a dict, that show that target is no combination; None if it is one.

    The sum of the numbers times the coefficients there is 0 for each of the terms, but not for target.
    """
    table = _joint_table(level, target, terms)
    count = len(terms)
    vectors = table.vectors()
    rows, used = echelon_of(vectors, count + 1)
    if count not in rows:
        return None
    # At the exponents used the rows of the free terms and target are independent, and as many as these.
    columns = transposed([vectors[n] for n in used])
    others, _ = echelon_of([columns[place] for place in sorted(rows) if place < count], len(used))
    numbers = kernel_of(others, len(used))[0]
    return {table.exponent(n): x for n, x in zip(used, numbers) if x != 0}
