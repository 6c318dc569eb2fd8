"""The graph along which matrices of a group are found as products of free generators.

Modulo 1 and -1 all matrices are the free product of a group of order 2, by S, and one of order 3,
by U = S * T. So each group of matrices, such as that of a level, acts on a tree; below it lies this
graph. Its edges are the points of the group: two matrices have the same point exactly if one times the
inverse of the other is in the group. Each edge has a near end, which it shares with the point to which
S moves it, and a far end, which it shares with those to which U moves it. The group is the free product
of the groups that leave an end fixed (of order 2 near, 3 far) and a free group that has a generator
for each edge outside of a tree that spans the graph.
"""

from etasure.cosets import all_points, moved_point
from etasure.matrices import FLIP, IDENTITY, inverted, product_of, upright

TURN = (0, -1, 1, 1)
BACK = (1, 1, -1, 0)


def level_skeleton(level):
    """The graph of the matrices of a level."""
    points = all_points(level)
    places = {point: at for at, point in enumerate(points)}
    flips = [places[moved_point(level, point, FLIP)] for point in points]
    turns = [places[moved_point(level, point, TURN)] for point in points]
    return Skeleton(flips, turns, places[(0, 1 % level)])


class Skeleton:
    """The graph of a group, with points told by numbers from 0 on.

    flips and turns tell to which points S and U move each, base is the point of the group itself. near
    and far are, for each edge, matrices with its point, such that those of edges that share
    an end are unlike by a power of S or U only, and both are equal along the tree. The basis is
    the list of generators (matrix, order); for each edge flip_places, turn_places and edge_places
    tell the place there of the one that fixes its near end, of the one that fixes its far end,
    and of the one that the edge itself makes, or None.
    """

    def __init__(self, flips, turns, base):
        count = len(flips)
        self.flips = list(flips)
        self.turns = list(turns)
        self.backs = [turns[at] for at in turns]
        self.base = base
        self.near = [None] * count
        self.far = [None] * count
        self.in_tree = [False] * count
        self.basis = []
        self.flip_places = [None] * count
        self.turn_places = [None] * count
        self.edge_places = [None] * count
        self.grow_tree()
        self.choose_basis()

    def grow_tree(self):
        """Walk from the base over all edges, and take those into the tree that lead to a new end."""
        queue = self.share_near(self.base, IDENTITY)
        done = 0
        while done < len(queue):
            at = queue[done]
            done += 1
            if self.far[at] is None:
                self.in_tree[at] = True
                queue.extend(self.share_far(at, self.near[at]))
            elif self.near[at] is None:
                self.in_tree[at] = True
                queue.extend(self.share_near(at, self.far[at]))

    def share_near(self, at, matrix):
        """Give the edges at a near end their matrices, and tell these edges."""
        self.near[at] = matrix
        flipped = self.flips[at]
        if flipped == at:
            return [at]
        self.near[flipped] = product_of(matrix, FLIP)
        return [at, flipped]

    def share_far(self, at, matrix):
        """Give the edges at a far end their matrices, and tell these edges."""
        self.far[at] = matrix
        if self.turns[at] == at:
            return [at]
        self.far[self.turns[at]] = product_of(matrix, TURN)
        self.far[self.backs[at]] = product_of(matrix, BACK)
        return [at, self.turns[at], self.backs[at]]

    def choose_basis(self):
        """Gather the generators: first those of order 2, then those of order 3, then the free ones."""
        edges = range(len(self.flips))
        for at in edges:
            if self.flips[at] == at:
                self.flip_places[at] = self.new_place(self.near[at], FLIP, self.near[at], 2)
        for at in edges:
            if self.turns[at] == at:
                self.turn_places[at] = self.new_place(self.far[at], TURN, self.far[at], 3)
        for at in edges:
            if not self.in_tree[at]:
                self.edge_places[at] = self.new_place(self.near[at], IDENTITY, self.far[at], 0)

    def new_place(self, start, middle, end, order):
        """Put the generator start * middle * inverted(end) at the end of the basis, and tell its place."""
        matrix = product_of(product_of(start, middle), inverted(end))
        self.basis.append((upright(matrix), order))
        return len(self.basis) - 1
