import copy
import random
import time
import unittest

from lampforge.depths import depths, way_down
from tests.things import some_work


class DepthTest(unittest.TestCase):
    def deep(self, work, due):
        before = copy.deepcopy(work)
        told = depths(work)
        self.assertEqual(told, due)
        self.assertIs(type(told), list)
        told.append(None)
        self.assertEqual(depths(work), due)
        first = 1 + work[0] + len(work[1])
        for place, depth in enumerate(due):
            way = way_down(work, first + place)
            self.assertIs(type(way), list)
            self.assertEqual(len(way), depth)
            self.assertEqual(way[0], first + place)
            for above, below in zip(way, way[1:]):
                self.assertIn(below, [end // 2 for end in work[2][above - first]])
                self.assertGreaterEqual(below, first)
            way.append(None)
            self.assertEqual(len(way_down(work, first + place)), depth)
        self.assertEqual(work, before)

    def test_no_gates(self):
        self.deep((0, [], [], []), [])
        self.deep((3, [(0, 2)], [], [4]), [])

    def test_gates_of_ins_boxes_and_the_known_knot(self):
        self.deep((2, [(0, 0)], [(2, 4), (3, 7), (0, 1), (1, 6), (2, 2)], []), [1, 1, 1, 1, 1])

    def test_chains(self):
        self.deep((1, [(1, 0)], [(2, 4), (6, 2), (4, 9), (11, 10), (0, 12)], [14]), [1, 2, 3, 4, 5])

    def test_the_deeper_end(self):
        # Knots 3 4 5 6 7 8: the deeper one first, second, both alike, both ends of one knot.
        self.deep((2, [], [(2, 4), (6, 2), (8, 6), (6, 8), (10, 12), (12, 13)], []), [1, 2, 3, 3, 4, 4])

    def test_boxes_do_not_count(self):
        self.deep((0, [(0, 6), (0, 8)], [(2, 4), (4, 6)], []), [1, 2])

    def test_any_work(self):
        rng = random.Random(1)
        for turn in range(60):
            work = some_work(rng, rng.randrange(4), rng.randrange(4), rng.randrange(20), 0, rng.choice((None, 3, 5)))
            first = 1 + work[0] + len(work[1])

            def depth(knot):
                return 0 if knot < first else 1 + max(depth(end // 2) for end in work[2][knot - first])
            self.deep(work, [depth(first + place) for place in range(len(work[2]))])

    def test_four_thousand_gates_one_behind_another(self):
        work = (1, [], [(2, 1)] + [(2, 2 * knot) for knot in range(2, 4001)], [8002])
        begun = time.perf_counter()
        self.assertEqual(depths(work), list(range(1, 4001)))
        self.assertEqual(way_down(work, 4001), list(range(4001, 1, -1)))
        self.assertEqual(way_down(work, 2), [2])
        self.assertLess(time.perf_counter() - begun, 10)


if __name__ == "__main__":
    unittest.main()
