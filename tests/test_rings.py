"""[1.4] and what [1.5] says of shortest rings."""

import itertools
import unittest

from noshortring.webs import far_of, first_ring, ring_good, shortest, shortest_many
from tests.helper import (LATE, LINES, NEVER, PETERSEN, SEVERAL, TooLong, all_rings, cube_web, even_webs, full_web,
                          known_webs, made, mixed, ring_web, row_web, small_webs, spokes_web, theta_web, tied,
                          turns_of, two_sided_web, within)

# Rows of the program that a question may take; all rows of places of a long ring would take far more.
SOON = 200000


class RingGood(unittest.TestCase):
    def test_all_rows_of_places_of_small_webs(self):
        for web in small_webs(4):
            for size in range(6):
                for row in itertools.product(range(web[0]), repeat=size):
                    due = size >= 3 and len(set(row)) == size and all(
                        tied(web, row[i - 1], row[i]) for i in range(size))
                    self.assertIs(ring_good(web, row), due, (web, row))

    def test_all_rings_begun_anywhere_and_either_way(self):
        for web in known_webs():
            for ring in all_rings(web)[:20]:
                for turned in turns_of(ring):
                    self.assertIs(ring_good(web, turned), True, (web, turned))

    def test_whatever_is_handed_in(self):
        for web in [full_web(4), (1, ()), full_web(16)]:
            for thing in NEVER + [(), (0, 1), [0, 1, 2], {0: 1, 1: 2, 2: 0}, "012", 0, 1, (0, 1, [2]), (0, 1, {}),
                                  ([], [], []), (0, 1, (2,)), (0, True, 2), (False, 1, 2), (0, 1, None), (0, 1, "2"),
                                  (0, 1, 16), (-1, 0, 1), (0, 1, 2, 0), (0, 1, 0), (0, 1, 1), (0, 0, 0)]:
                self.assertIs(ring_good(web, thing), False, thing)

    def test_the_last_is_tied_to_the_first(self):
        self.assertIs(ring_good(row_web(4), (0, 1, 2)), False)
        self.assertIs(ring_good(ring_web(4), (0, 1, 2)), False)
        self.assertIs(ring_good(ring_web(4), (0, 1, 2, 3)), True)
        self.assertIs(ring_good(ring_web(16), tuple(range(16))), True)


class Shortest(unittest.TestCase):
    def check(self, web):
        rings = all_rings(web)
        size = min([len(ring) for ring in rings], default=None)
        least = [ring for ring in rings if len(ring) == size]
        self.assertEqual(shortest(web), size, web)
        self.assertEqual(shortest_many(web), len(least), web)
        self.assertEqual(first_ring(web), min(least, default=None), web)

    def test_all_webs_of_five_places(self):
        for web in small_webs(5):
            self.check(web)

    def test_webs_of_all_sizes(self):
        for web in known_webs():
            self.check(web)

    def test_without_rings(self):
        for web in [(1, ()), (2, ()), (16, ()), row_web(2), row_web(16), two_sided_web(1, 15)]:
            self.assertIsNone(shortest(web))
            self.assertIsNone(first_ring(web))
            self.assertEqual(shortest_many(web), 0)

    def test_by_hand(self):
        for web, size, many in [(full_web(16), 3, 560), (two_sided_web(8, 8), 4, 784), (cube_web(4), 4, 24),
                                (PETERSEN, 5, 12), (LINES, 6, 28), (ring_web(16), 16, 1), (ring_web(3), 3, 1),
                                (SEVERAL, 3, 1), (LATE, 3, 1), (theta_web(4, 5, 5), 11, 2)]:
            for other in (web, mixed(web, 7)):
                self.assertEqual(shortest(other), size)
                self.assertEqual(shortest_many(other), many)

    def test_the_first_as_tuples_compare(self):
        self.assertEqual(first_ring(full_web(16)), (0, 1, 2))
        self.assertEqual(first_ring(two_sided_web(8, 8)), (0, 8, 1, 9))
        self.assertEqual(first_ring(LATE), (5, 6, 7))
        self.assertEqual(first_ring(PETERSEN), (0, 1, 2, 3, 4))
        self.assertEqual(first_ring(made(5, [(0, 4), (4, 1), (1, 3), (3, 0), (0, 2), (2, 1)])), (0, 2, 1, 3))

    def test_the_first_is_a_ring_ahead_of_all_its_turns(self):
        for web in known_webs() + even_webs():
            ring = first_ring(web)
            if ring is not None:
                self.assertIs(ring_good(web, ring), True)
                self.assertEqual(len(ring), shortest(web))
                self.assertEqual(ring, min(turns_of(ring)))

    def test_as_far_in_the_web_as_along_the_ring(self):
        for web in known_webs():
            rings = all_rings(web)
            size = shortest(web)
            for ring in [ring for ring in rings if len(ring) == size]:
                for i, j in itertools.product(range(size), repeat=2):
                    along = min(abs(i - j), size - abs(i - j))
                    self.assertEqual(far_of(web, ring[i], ring[j]), along, (web, ring))


class Soon(unittest.TestCase):
    def test_long_shortest_rings_of_sixteen_places(self):
        tail = made(16, [(place, (place + 1) % 15) for place in range(15)] + [(0, 15)])
        for web, many in [(ring_web(16), 1), (tail, 1), (theta_web(4, 5, 5), 2), (theta_web(7, 7), 1),
                          (spokes_web(8, 3), None)]:
            for other in [web] + [mixed(web, seed) for seed in range(6)]:
                ring = within(SOON, first_ring, other)
                self.assertIs(ring_good(other, ring), True)
                self.assertEqual(ring, min(min(turns_of(each)) for each in all_rings(other)
                                           if len(each) == len(ring)))
                if many is not None:
                    self.assertEqual(within(SOON, shortest_many, other), many)

    def test_many_ties_of_sixteen_places(self):
        for web in [full_web(16), two_sided_web(8, 8), cube_web(4)]:
            self.assertIs(ring_good(web, within(SOON, first_ring, web)), True)

    def test_going_through_all_would_be_told(self):
        def through_all():
            for row in itertools.permutations(range(16), 8):
                if ring_good(ring_web(16), row):
                    return row

        with self.assertRaises(TooLong):
            within(SOON, through_all)


if __name__ == "__main__":
    unittest.main()
