"""Stage 2: growth."""

import itertools
import unittest

from noshortring.fewest import least_by_growth
from noshortring.growth import full_at, full_by, layers_by_tie, layers_of, longest_fit, ring_at, ring_by
from noshortring.webs import shortest
from tests.helper import (LATE, LINES, NEVER, PETERSEN, SEVERAL, all_rings, beside_in, cube_web, even_webs,
                          fields_of, full_web, known_webs, made, plain_fars, ring_web, row_web, small_webs, tied,
                          two_sided_web)

NO_PLACE = ("NoPlace", {})
NO_LINE = ("NoLine", {})
NO_NUMBER = ("NoNumber", {})
NOT_EVEN = ("NotEven", {})
BY_TIE = (layers_by_tie, ring_by, full_by)


def gathered(fars):
    """The layers, by how far each place is."""
    there = [far for far in fars if far is not None]
    return [tuple(p for p, far in enumerate(fars) if far == i) for i in range(max(there) + 1)]


def nearer(fars, a, b):
    """At each place, how far the nearer one of both is."""
    return [None if fars[a][p] is None else min(fars[a][p], fars[b][p]) for p in range(len(fars))]


class Layers(unittest.TestCase):
    """[2.1]"""

    def test_as_by_going_through_all(self):
        for web in known_webs() + even_webs():
            fars = plain_fars(web)
            for place in range(web[0]):
                self.assertEqual(layers_of(web, place), gathered(fars[place]), web)
            for a, b in web[1]:
                due = gathered(nearer(fars, a, b))
                self.assertEqual(layers_by_tie(web, a, b), due, web)
                self.assertEqual(layers_by_tie(web, b, a), due, web)

    def test_by_hand(self):
        self.assertEqual(layers_of((1, ()), 0), [(0,)])
        self.assertEqual(layers_of((16, ()), 15), [(15,)])
        self.assertEqual(layers_of(SEVERAL, 3), [(3,), (1, 14), (2,)])
        self.assertEqual(layers_of(PETERSEN, 3), [(3,), (2, 4, 8), (0, 1, 5, 6, 7, 9)])
        self.assertEqual(layers_of(row_web(16), 0), [(place,) for place in range(16)])
        self.assertEqual(layers_by_tie(row_web(2), 0, 1), [(0, 1)])
        self.assertEqual(layers_by_tie(ring_web(16), 0, 15),
                         [(i, 15 - i) for i in range(8)])
        self.assertEqual(layers_by_tie(PETERSEN, 5, 0), [(0, 5), (1, 4, 7, 8), (2, 3, 6, 9)])

    def test_no_place(self):
        for web in [(1, ()), PETERSEN, (16, ())]:
            for thing in NEVER + [web[0], (0,), [0]]:
                self.assertEqual(fields_of(layers_of, web, thing), NO_PLACE, thing)

    def test_refusals_of_ties(self):
        for web in [(1, ()), PETERSEN, full_web(16)]:
            for thing in NEVER + [web[0], (0,), (0, 1), [0]]:
                for call in BY_TIE:
                    self.assertEqual(fields_of(call, web, thing, 0), NO_PLACE, thing)
                    self.assertEqual(fields_of(call, web, 0, thing), NO_PLACE, thing)
                    self.assertEqual(fields_of(call, web, thing, thing), NO_PLACE, thing)

    def test_places_that_are_not_tied(self):
        for web in [(1, ()), PETERSEN, full_web(16), (16, ()), ring_web(4)]:
            for a, b in itertools.product(range(web[0]), repeat=2):
                for call in BY_TIE:
                    due = None if tied(web, a, b) else NO_LINE
                    self.assertEqual(fields_of(call, web, a, b), due, (web, a, b))


class RingsAt(unittest.TestCase):
    """[2.2]"""

    def check(self, web):
        rings = all_rings(web)
        for place in range(web[0]):
            due = min([len(ring) for ring in rings if place in ring], default=None)
            self.assertEqual(ring_at(web, place), due, (web, place))
        for a, b in web[1]:
            due = min([len(ring) for ring in rings if beside_in(ring, a, b)], default=None)
            self.assertEqual(ring_by(web, a, b), due, (web, a, b))
            self.assertEqual(ring_by(web, b, a), due, (web, a, b))

    def test_all_webs_of_five_places(self):
        for web in small_webs(5):
            self.check(web)

    def test_webs_of_all_sizes(self):
        for web in known_webs():
            self.check(web)

    def test_by_hand(self):
        self.assertIsNone(ring_at((1, ()), 0))
        self.assertIsNone(ring_by(row_web(2), 0, 1))
        self.assertEqual(ring_at(LATE, 0), 4)
        self.assertEqual(ring_at(LATE, 7), 3)
        self.assertIsNone(ring_at(LATE, 4))
        self.assertIsNone(ring_by(LATE, 7, 4))
        self.assertEqual(ring_at(ring_web(16), 9), 16)
        self.assertEqual(ring_by(full_web(16), 15, 3), 3)
        crossed = made(6, [(0, 1), (1, 2), (2, 3), (3, 0), (3, 4), (4, 5), (5, 0)])
        self.assertEqual(ring_by(crossed, 4, 5), 4)
        self.assertEqual(ring_at(SEVERAL, 10), 5)

    def test_no_place(self):
        for web in [(1, ()), PETERSEN, row_web(16)]:
            for thing in NEVER + [web[0], (0,), [0]]:
                self.assertEqual(fields_of(ring_at, web, thing), NO_PLACE, thing)


def plain_full(sizes, due_at):
    """How many sizes of layers from 1 on, one behind the other, are as due."""
    full = 0
    while full + 1 < len(sizes) and sizes[full + 1] == due_at(full + 1):
        full += 1
    return full


class Full(unittest.TestCase):
    """[2.3]"""

    def test_as_counted(self):
        for web in even_webs():
            d = sum(0 in tie for tie in web[1])
            fars = plain_fars(web)
            for place in range(web[0]):
                sizes = [len(layer) for layer in gathered(fars[place])]
                self.assertEqual(full_at(web, place), plain_full(sizes, lambda i: d * (d - 1) ** (i - 1)), web)
            for a, b in web[1]:
                sizes = [len(layer) for layer in gathered(nearer(fars, a, b))]
                due = plain_full(sizes, lambda i: 2 * (d - 1) ** i)
                self.assertEqual(full_by(web, a, b), due, web)
                self.assertEqual(full_by(web, b, a), due, web)

    def test_by_hand(self):
        for web, at, by in [(PETERSEN, 2, 1), (LINES, 2, 2), (full_web(16), 1, 0), (two_sided_web(8, 8), 1, 1),
                            (ring_web(16), 7, 7), (ring_web(15), 7, 6), (ring_web(3), 1, 0), (cube_web(4), 1, 1),
                            (cube_web(3), 1, 1), (row_web(2), 1, 0)]:
            self.assertEqual(full_at(web, 1), at, web)
            self.assertEqual(full_by(web, *web[1][-1]), by, web)

    def test_layers_that_are_not_there_are_not_full(self):
        self.assertEqual(full_at((1, ()), 0), 0)
        self.assertEqual(full_at((16, ()), 3), 0)
        self.assertEqual(full_at(made(4, [(0, 2), (1, 3)]), 3), 1)
        self.assertEqual(full_by(made(4, [(0, 2), (1, 3)]), 3, 1), 0)

    def test_not_even_ahead_of_all_else(self):
        for web in [row_web(3), SEVERAL, LATE, two_sided_web(1, 15)]:
            for thing in NEVER + [0, web[0]]:
                self.assertEqual(fields_of(full_at, web, thing), NOT_EVEN, thing)
                self.assertEqual(fields_of(full_by, web, thing, thing), NOT_EVEN, thing)
                self.assertEqual(fields_of(full_by, web, 0, thing), NOT_EVEN, thing)

    def test_no_place(self):
        for web in [(1, ()), PETERSEN, full_web(16)]:
            for thing in NEVER + [web[0], (0,), [0]]:
                self.assertEqual(fields_of(full_at, web, thing), NO_PLACE, thing)


class LongestFit(unittest.TestCase):
    """[2.4]"""

    def test_all(self):
        for d in range(2, 16):
            for many in range(1, 17):
                due = max([g for g in range(3, 17) if least_by_growth(d, g) <= many], default=None)
                self.assertEqual(longest_fit(d, many), due, (d, many))

    def test_by_hand(self):
        self.assertEqual(longest_fit(2, 16), 16)
        self.assertEqual(longest_fit(2, 3), 3)
        self.assertIsNone(longest_fit(2, 2))
        self.assertIsNone(longest_fit(2, 1))
        self.assertEqual([longest_fit(3, many) for many in range(1, 17)],
                         [None] * 3 + [3, 3] + [4] * 4 + [5] * 4 + [6] * 3)
        self.assertEqual(longest_fit(15, 16), 3)
        self.assertIsNone(longest_fit(15, 15))
        self.assertEqual(longest_fit(8, 16), 4)
        self.assertEqual(longest_fit(8, 15), 3)

    def test_no_number(self):
        for thing in NEVER + [0, 1, 16, 17, (3,), [3]]:
            self.assertEqual(fields_of(longest_fit, thing, 10), NO_NUMBER, thing)
        for thing in NEVER + [0, 17, (3,), [3]]:
            self.assertEqual(fields_of(longest_fit, 3, thing), NO_NUMBER, thing)
            self.assertEqual(fields_of(longest_fit, thing, thing), NO_NUMBER, thing)


class Over(unittest.TestCase):
    """[2.5]"""

    def test_the_shortest_is_the_least_at_places_and_by_ties(self):
        for web in known_webs() + even_webs():
            at = [ring_at(web, place) for place in range(web[0])]
            by = [ring_by(web, a, b) for a, b in web[1]]
            for sizes in (at, by):
                self.assertEqual(min([size for size in sizes if size is not None], default=None), shortest(web), web)

    def test_as_many_are_full_as_the_shortest_ring_asks(self):
        for web in even_webs():
            g = shortest(web)
            if g is not None:
                for place in range(web[0]):
                    self.assertGreaterEqual(full_at(web, place), (g - 1) // 2)
                for a, b in web[1]:
                    self.assertGreaterEqual(full_by(web, a, b), g // 2 - 1)

    def test_longest_fit_is_no_less_than_the_shortest_ring(self):
        for web in even_webs():
            if shortest(web) is not None:
                self.assertGreaterEqual(longest_fit(sum(0 in tie for tie in web[1]), web[0]), shortest(web))


if __name__ == "__main__":
    unittest.main()
