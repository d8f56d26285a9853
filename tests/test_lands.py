"""The lands of the tests themselves: enough of them, unlike, and drawn without crossings."""

import unittest

from tests.lands import BY_HAND, LANDS, LARGE, count_corners


class Lands(unittest.TestCase):

    def test_many_unlike(self):
        self.assertGreaterEqual(len(LANDS), 70)
        self.assertEqual(len(set(LANDS)), len(LANDS))

    def test_euler(self):
        for land in LANDS:
            n, borders, turns, lengths = land
            self.assertEqual(n - len(borders) + count_corners(turns), 2)
            self.assertEqual((len(turns), len(lengths)), (n, len(borders)))

    def test_bounds(self):
        self.assertEqual([(land[0], len(land[1])) for land in LARGE], [(24, 60), (24, 23), (2, 60), (24, 60)])
        self.assertGreater(max(max(land[3]) for land in LARGE), 10 ** 8)

    def test_edges(self):
        self.assertEqual([count_corners(land[2]) for land in BY_HAND], [1, 3, 1, 1, 2, 2, 4])
