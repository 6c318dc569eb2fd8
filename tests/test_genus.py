"""Counts for a level ([24])."""

import unittest

from etasure.cosets import all_points, index_of, point_for
from etasure.errors import BadLevel
from etasure.genus import cusp_count, elliptic, genus_of, rank_of
from tests.helpers import NO_LEVELS, Case
from tests.test_cusps import orbit_by_t

KNOWN_GENERA = {1: 0, 10: 0, 11: 1, 12: 0, 13: 0, 14: 1, 16: 0, 18: 0, 22: 2, 25: 0, 37: 2, 49: 1, 50: 2, 60: 7,
                61: 4, 64: 3, 71: 6, 100: 7, 163: 13, 360: 57}


class TestGenus(Case):

    def test_by_hand(self):
        self.assertEqual(self.tell(elliptic, 1), (1, 1))
        self.assertEqual(self.tell(elliptic, 2), (1, 0))
        self.assertEqual(self.tell(elliptic, 3), (0, 1))
        self.assertEqual(self.tell(elliptic, 13), (2, 2))
        self.assertEqual(self.tell(elliptic, 65), (4, 0))
        self.assertEqual(self.tell(elliptic, 91), (0, 4))
        self.assertEqual(self.tell(cusp_count, 1), 1)
        self.assertEqual(self.tell(cusp_count, 9), 4)
        self.assertEqual(self.tell(cusp_count, 36), 12)
        self.assertEqual(self.tell(rank_of, 1), 2)
        self.assertEqual(self.tell(rank_of, 2), 2)
        self.assertEqual(self.tell(rank_of, 11), 3)

    def test_known_genera(self):
        for level, genus in KNOWN_GENERA.items():
            self.assertEqual(self.tell(genus_of, level), genus, level)

    def test_genus_zero(self):
        zero = [level for level in range(1, 361) if genus_of(level) == 0]
        self.assertEqual(zero, [1, 2, 3, 4, 5, 6, 7, 8, 9, 10, 12, 13, 16, 18, 25])

    def test_formulas_at_all_levels(self):
        for level in range(1, 361):
            twos, threes = elliptic(level)
            self.assertEqual(twos, sum((x * x + 1) % level == 0 for x in range(level)))
            self.assertEqual(threes, sum((x * x + x + 1) % level == 0 for x in range(level)))
            genus, cusps = genus_of(level), cusp_count(level)
            self.assertGreaterEqual(genus, 0)
            self.assertEqual(12 * genus, 12 + index_of(level) - 3 * twos - 4 * threes - 6 * cusps)
            self.assertEqual(rank_of(level), twos + threes + 2 * genus + cusps - 1)

    def test_points_that_are_left_where_they_are(self):
        for level in list(range(1, 80)) + [91, 130, 180, 221, 360]:
            points = all_points(level)
            twos = sum(point_for(level, d, -c) == (c, d) for c, d in points)
            threes = sum(point_for(level, d, d - c) == (c, d) for c, d in points)
            self.assertEqual(elliptic(level), (twos, threes))

    def test_orbits_by_t(self):
        for level in list(range(1, 62)) + [91, 144, 180, 360]:
            orbits = {min(orbit_by_t(level, point)) for point in all_points(level)}
            self.assertEqual(len(orbits), cusp_count(level))

    def test_wrong(self):
        for function in (elliptic, cusp_count, genus_of, rank_of):
            self.fails_in_turn(function, [1], [(BadLevel, NO_LEVELS)])


if __name__ == "__main__":
    unittest.main()
