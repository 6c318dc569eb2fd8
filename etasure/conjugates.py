"""Which matrices of a level are the same but for a change of coordinates of the level."""

from etasure.checks import check_level
from etasure.groups import path_of, product_along
from etasure.matrices import check_matrix_of, inverted, product_of, upright
from etasure.skeleton import level_skeleton
from etasure.steps import core_of, inverse_steps, turning_from


def conjugator(level, one, other):
    """A matrix g of the level with g * one * inverted(g) = other; None if there is none."""
    check_level(level)
    check_matrix_of(level, one)
    check_matrix_of(level, other)
    paths = [path_of(level, upright(given)) for given in (one, other)]
    basis = level_skeleton(level).basis
    steps = conjugating_steps(paths[0], paths[1], [order for _, order in basis])
    if steps is None:
        return None
    matrix = product_along(basis, steps)
    # Paths leave the sign open. Where this matrix leads to the negative one of other, all others do:
    # what commutes with one but for a sign does so with the sign, too.
    if product_of(product_of(matrix, one), inverted(matrix)) != other:
        return None
    return matrix


def conjugating_steps(one, other, orders):
    """The steps of an element that conjugates one to other, told by their paths; None if there is none.

    In a free product two elements are conjugate exactly if their cores are turned into one another.
    """
    outer, core = core_of(one, orders)
    other_outer, other_core = core_of(other, orders)
    count = turning_from(core, other_core)
    if count is None:
        return None
    turned = inverse_steps(core[:count], orders)
    return other_outer + turned + inverse_steps(outer, orders)
