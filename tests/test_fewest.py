"""Stage 3: fewest places."""

import unittest

from noshortring.fewest import fits, least_by_growth, least_fit, surplus, tight, tight_by
from noshortring.webs import far_of
from tests.helper import (LATE, LINES, NEVER, PETERSEN, SEVERAL, all_rings, cube_web, even_webs, fields_of, full_web,
                          known_webs, made, mixed, plain_even, ring_web, row_web, small_webs, spokes_web,
                          two_sided_web)

NO_NUMBER = ("NoNumber", {})
NOT_EVEN = ("NotEven", {})
NO_RING = ("NoRing", {})
WRONG_D = NEVER + [0, 1, 16, (3,), [3]]
WRONG_G = NEVER + [0, 1, 2, 17, (3,), [3]]
ALL_D = range(2, 16)
ALL_G = range(3, 17)


def plain_least(d, g):
    r = g // 2
    if g % 2:
        return 1 + sum(d * (d - 1) ** i for i in range(r))
    return 2 * sum((d - 1) ** i for i in range(r))


def ringed_webs():
    """Webs with how many ties each place has, and how many places the shortest ring, both or None."""
    told = [(full_web(many), many - 1, 3) for many in range(3, 17)]
    told += [(two_sided_web(many, many), many, 4) for many in range(2, 9)]
    told += [(ring_web(many), 2, many) for many in range(3, 17)]
    told += [(PETERSEN, 3, 5), (LINES, 3, 6), (spokes_web(8, 3), 3, 6), (spokes_web(7, 2), 3, 5), (cube_web(3), 3, 4),
             (cube_web(4), 4, 4), (spokes_web(6, 1), 3, 4)]
    told += [(made(9, list(ring_web(3)[1]) + [(a + 3, b + 3) for a, b in ring_web(6)[1]]), 2, 3)]
    told += [((1, ()), 0, None), ((16, ()), 0, None), (row_web(2), 1, None), (row_web(16), None, None),
             (SEVERAL, None, 3), (LATE, None, 3)]
    told = told + [(mixed(web, 5), d, g) for web, d, g in told]
    for web in known_webs():
        told.append((web, plain_even(web), min([len(ring) for ring in all_rings(web)], default=None)))
    return told


class LeastByGrowth(unittest.TestCase):
    """[3.1]"""

    def test_all(self):
        for d in ALL_D:
            for g in ALL_G:
                self.assertEqual(least_by_growth(d, g), plain_least(d, g), (d, g))

    def test_by_hand(self):
        for d, g, due in [(2, 3, 3), (2, 16, 16), (3, 3, 4), (3, 4, 6), (3, 5, 10), (3, 6, 14), (3, 7, 22),
                          (3, 8, 30), (7, 5, 50), (4, 6, 26), (15, 3, 16), (15, 4, 30),
                          (15, 16, 2 * (14 ** 8 - 1) // 13), (3, 16, 510)]:
            self.assertEqual(least_by_growth(d, g), due, (d, g))

    def test_no_number(self):
        for call in (least_by_growth, least_fit):
            for thing in WRONG_D:
                self.assertEqual(fields_of(call, thing, 5), NO_NUMBER, thing)
            for thing in WRONG_G:
                self.assertEqual(fields_of(call, 3, thing), NO_NUMBER, thing)
                self.assertEqual(fields_of(call, thing, thing), NO_NUMBER, thing)


class LeastFit(unittest.TestCase):
    """[3.2]"""

    def test_all(self):
        for d in ALL_D:
            for g in ALL_G:
                due = max(plain_least(d, g), d + 1)
                while due * d % 2:
                    due += 1
                self.assertEqual(least_fit(d, g), due, (d, g))

    def test_by_hand(self):
        # By growth 1, 5 and 20 places: 26 times 5 is even as it stands.
        self.assertEqual(least_fit(5, 5), 26)
        self.assertEqual(least_fit(2, 3), 3)
        self.assertEqual(least_fit(2, 16), 16)
        self.assertEqual(least_fit(15, 3), 16)
        self.assertEqual(least_fit(3, 7), 22)
        self.assertEqual(least_fit(4, 3), 5)


class Fits(unittest.TestCase):
    """[3.3]"""

    def test_fits(self):
        for web, even, size in ringed_webs():
            for d in ALL_D:
                for g in (3, 4, 5, 6, 7, 15, 16):
                    self.assertIs(fits(web, d, g), even == d and size >= g, (web, d, g))

    def test_surplus(self):
        for web, even, size in ringed_webs():
            for d in (2, 3, 4, 15):
                for g in (3, 4, 5, 6, 7, 15, 16):
                    if even != d:
                        self.assertEqual(fields_of(surplus, web, d, g), NOT_EVEN, (web, d, g))
                    elif size < g:
                        self.assertEqual(fields_of(surplus, web, d, g), NO_RING, (web, d, g))
                    else:
                        self.assertEqual(surplus(web, d, g), web[0] - plain_least(d, g), (web, d, g))

    def test_by_hand(self):
        self.assertIs(fits(PETERSEN, 3, 5), True)
        self.assertIs(fits(PETERSEN, 3, 6), False)
        self.assertIs(fits(PETERSEN, 2, 5), False)
        self.assertEqual(surplus(PETERSEN, 3, 5), 0)
        self.assertEqual(surplus(PETERSEN, 3, 3), 6)
        self.assertEqual(surplus(spokes_web(8, 3), 3, 6), 2)
        self.assertEqual(surplus(ring_web(16), 2, 16), 0)
        self.assertEqual(surplus(full_web(16), 15, 3), 0)

    def test_no_number_ahead_of_all_else(self):
        for web in [PETERSEN, row_web(3), (1, ()), LATE]:
            for call in (fits, surplus):
                for thing in WRONG_D:
                    self.assertEqual(fields_of(call, web, thing, 5), NO_NUMBER, thing)
                for thing in WRONG_G:
                    self.assertEqual(fields_of(call, web, 3, thing), NO_NUMBER, thing)
                    self.assertEqual(fields_of(call, web, 4, thing), NO_NUMBER, thing)
                    self.assertEqual(fields_of(call, web, thing, thing), NO_NUMBER, thing)

    def test_not_even_ahead_of_a_shorter_ring(self):
        self.assertEqual(fields_of(surplus, full_web(4), 2, 5), NOT_EVEN)
        self.assertEqual(fields_of(surplus, full_web(4), 3, 4), NO_RING)
        self.assertEqual(fields_of(surplus, LATE, 2, 16), NOT_EVEN)
        self.assertEqual(fields_of(surplus, (1, ()), 2, 3), NOT_EVEN)


class Tight(unittest.TestCase):
    """[3.4]"""

    def check(self, web, even, size):
        due = None
        if even is not None and even >= 2 and web[0] == plain_least(even, size):
            due = (even, size)
        self.assertEqual(tight_by(web), due, web)
        self.assertIs(tight(web), due is not None, web)

    def test_known_ones(self):
        for web, even, size in ringed_webs():
            self.check(web, even, size)

    def test_all_webs_of_five_places(self):
        for web in small_webs(5):
            self.check(web, plain_even(web), min([len(ring) for ring in all_rings(web)], default=None))

    def test_by_hand(self):
        for web, due in [(PETERSEN, (3, 5)), (LINES, (3, 6)), (full_web(16), (15, 3)), (two_sided_web(8, 8), (8, 4)),
                         (full_web(3), (2, 3)), (ring_web(16), (2, 16)), (cube_web(3), None), (cube_web(4), None),
                         (spokes_web(8, 3), None), (row_web(2), None), ((1, ()), None), ((16, ()), None),
                         (full_web(2), None), (row_web(16), None), (SEVERAL, None), (two_sided_web(2, 3), None)]:
            self.assertEqual(tight_by(web), due, web)
            self.assertIs(tight(web), due is not None, web)


class Over(unittest.TestCase):
    """[3.5]"""

    def test_a_web_that_fits_has_as_many_places_as_least_fit(self):
        for web in even_webs() + list(small_webs(5)):
            for d in range(2, 5):
                for g in (3, 4, 5, 6, 16):
                    if fits(web, d, g):
                        self.assertGreaterEqual(web[0], least_fit(d, g))
                        self.assertGreaterEqual(surplus(web, d, g), 0)

    def test_a_ring_is_tight(self):
        for g in ALL_G:
            self.assertEqual(tight_by(mixed(ring_web(g), g)), (2, g))

    def test_in_an_odd_tight_web_all_are_near(self):
        seen = 0
        for web in even_webs():
            by = tight_by(web)
            if by is not None and by[1] % 2 == 1:
                seen += 1
                for one in range(web[0]):
                    for other in range(web[0]):
                        self.assertLessEqual(far_of(web, one, other), by[1] // 2)
        self.assertGreater(seen, 20)


if __name__ == "__main__":
    unittest.main()
