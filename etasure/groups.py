"""Free generators of the matrices of a level, and the only path of them that leads to each matrix."""

from etasure.checks import check_level, is_pair
from etasure.errors import BadPath, TooMany
from etasure.genus import elliptic, rank_of
from etasure.matrices import IDENTITY, check_matrix_of, check_upright, matrix_power, product_of, upright
from etasure.skeleton import level_skeleton
from etasure.steps import add_step
from etasure.words import chain_within

GREATEST_SMALL_LEVEL = 60
GREATEST_PATH = 9000
GREATEST_CHAIN_SUM = 600
# Inner numbers of a chain are from 2 on, so with 301 of them and two outer ones the sum is greater.
LONGEST_SHORT_CHAIN = 302


def check_small(level):
    """TooMany(60) if the level is above 60."""
    if level > GREATEST_SMALL_LEVEL:
        raise TooMany(GREATEST_SMALL_LEVEL)


def generators(level):
    """The list of the generators, pairs (matrix, order), order 0 for the free ones."""
    check_level(level)
    check_small(level)
    return level_skeleton(level).basis


def orders_of(level):
    """The orders of the generators by their places."""
    twos, threes = elliptic(level)
    return [2] * twos + [3] * threes + [0] * (rank_of(level) - twos - threes)


def is_path(level, thing):
    """Whether it is a path of the level."""
    check_level(level)
    check_small(level)
    if not isinstance(thing, tuple) or not all([is_pair(step) for step in thing]):
        return False
    orders = orders_of(level)
    if not all([_is_step(step, orders) for step in thing]):
        return False
    places = [place for place, _ in thing]
    if not all([place != after for place, after in zip(places, places[1:])]):
        return False
    return sum([abs(exponent) for _, exponent in thing]) <= GREATEST_PATH


def _is_step(step, orders):
    """Whether the pair is a place of a generator and an exponent that its order lets."""
    place, exponent = step
    if not 0 <= place < len(orders):
        return False
    if orders[place] == 0:
        return exponent != 0
    return 1 <= exponent < orders[place]


def along(level, path):
    """The upright matrix that is, but for its sign, the product of the powers along the path."""
    if not is_path(level, path):
        raise BadPath("the path is none of the level")
    return upright(product_along(level_skeleton(level).basis, path))


def product_along(basis, steps):
    """The product of the powers of generators that the steps tell."""
    matrix = IDENTITY
    for place, exponent in steps:
        matrix = product_of(matrix, matrix_power(basis[place][0], exponent))
    return matrix


def path_of(level, matrix):
    """The path along which the matrix, upright and of the level, is found."""
    check_level(level)
    check_upright(matrix)
    check_matrix_of(level, matrix)
    check_small(level)
    turns = turns_to(matrix)
    return tuple(steps_along(level_skeleton(level), turns))


def turns_to(matrix):
    """An upright matrix as turns_of its chain; TooMany(600) if the numbers of that come to more than 600."""
    chain = chain_within(matrix, LONGEST_SHORT_CHAIN)
    if chain is None or sum([abs(k) for k in chain]) > GREATEST_CHAIN_SUM:
        raise TooMany(GREATEST_CHAIN_SUM)
    return turns_of(chain)


def turns_of(chain):
    """The matrix of a chain, but for its sign, as a product of powers of S and of U = S * T.

    It is told by a list of numbers: 0 for S, 1 for U, 2 for its inverse; S and powers of U alternate.
    """
    turns = []
    for at, k in enumerate(chain):
        if at > 0:
            _add_turn(turns, 0)
        # But for signs T is S * U, and its inverse is U ** 2 * S.
        for _ in range(abs(k)):
            _add_turn(turns, 0 if k > 0 else 2)
            _add_turn(turns, 1 if k > 0 else 0)
    return turns


def _add_turn(turns, turn):
    """Multiply the product by one more factor."""
    if not turns or (turns[-1] == 0) != (turn == 0):
        turns.append(turn)
        return
    both = (turns.pop() + turn) % 3
    if both != 0:
        turns.append(both)


def steps_along(skeleton, turns):
    """The steps by generators of a walk from the base, which the turns lead along and back there."""
    orders = [order for _, order in skeleton.basis]
    steps = []
    at = skeleton.base
    is_near = True
    for turn in turns:
        if is_near != (turn == 0):
            _cross(steps, skeleton.edge_places[at], is_near, orders)
            is_near = not is_near
        fixing = skeleton.flip_places[at] if is_near else skeleton.turn_places[at]
        if fixing is not None:
            add_step(steps, fixing, max(1, turn), orders)
        elif is_near:
            at = skeleton.flips[at]
        else:
            at = skeleton.turns[at] if turn == 1 else skeleton.backs[at]
    # The edge at the base belongs to the tree, so it does not matter at which end of it the walk stops.
    return steps


def _cross(steps, place, from_near, orders):
    """Go along an edge: by its generator or back, from its near end or its far one; None in the tree."""
    if place is not None:
        add_step(steps, place, 1 if from_near else -1, orders)
