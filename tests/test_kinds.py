"""Stage 6: kinds."""

import itertools
import unittest

from noshortring.fewest import fits, least_by_growth, surplus
from noshortring.kinds import kind_counts, kind_even, kind_good, kind_of, kind_ring, kinds_fit_by, web_by
from noshortring.webs import near_of, web_good
from tests.helper import (LINES, NEVER, PETERSEN, SEVERAL, cube_web, fields_of, full_web, known_webs, made, mixed,
                          plain_even, plain_fits, plain_ring, ring_web, row_web, small_webs, spokes_web, two_sided_web,
                          within)

NO_LINE = ("NoLine", {})
NO_NUMBER = ("NoNumber", {})
WORDS = ("cube", "full", "ladder", "lines", "ring", "spokes", "twisted", "two")
CALLS = (web_by, kind_counts, kind_even, kind_ring)
WRONG_D = NEVER + [16, 17, (3,), [3]]
WRONG_G = NEVER + [0, 1, 2, 17, (3,), [3]]
# Rows of the program that a question may take.
SOON = 300000


def plain_kinds():
    """All kinds, rising."""
    kinds = [("cube", k) for k in range(5)] + [("full", n) for n in range(1, 17)]
    kinds += [("ladder", n) for n in range(3, 9)] + [("lines", 7)] + [("ring", n) for n in range(3, 17)]
    kinds += [("spokes", 3, 1), ("spokes", 4, 1), ("spokes", 5, 1), ("spokes", 5, 2), ("spokes", 6, 1), ("spokes", 6, 2)]
    kinds += [("spokes", n, k) for n in (7, 8) for k in (1, 2, 3)]
    kinds += [("twisted", n) for n in range(2, 9)]
    return kinds + [("two", a, b) for a in range(1, 16) for b in range(1, 17 - a)]


def plain_web(kind):
    word, n = kind[:2]
    if word == "cube":
        pairs = itertools.combinations(range(2 ** n), 2)
        return made(2 ** n, [(a, b) for a, b in pairs if bin(a ^ b).count("1") == 1])
    if word == "full":
        return full_web(n)
    if word == "ladder":
        rings = list(ring_web(n)[1]) + [(n + a, n + b) for a, b in ring_web(n)[1]]
        return made(2 * n, rings + [(a, a + n) for a in range(n)])
    if word == "lines":
        return LINES
    if word == "ring":
        return ring_web(n)
    if word == "spokes":
        return spokes_web(n, kind[2])
    if word == "twisted":
        return made(2 * n, list(ring_web(2 * n)[1]) + [(a, a + n) for a in range(n)])
    return two_sided_web(n, kind[2])


class KindGood(unittest.TestCase):
    """[6.1]"""

    def test_all_words_and_numbers(self):
        kinds = plain_kinds()
        self.assertEqual(kinds, sorted(kinds))
        for word in WORDS + ("star", "", "Cube", "cubes"):
            for n in range(-2, 20):
                self.assertIs(kind_good((word, n)), (word, n) in kinds, (word, n))
                for k in range(-2, 20):
                    self.assertIs(kind_good((word, n, k)), (word, n, k) in kinds, (word, n, k))
                    due = None if (word, n, k) in kinds else NO_LINE
                    self.assertEqual(fields_of(web_by, (word, n, k)), due)
                    self.assertIs(kind_good((word, n, k, 1)), False)

    def test_whatever_is_handed_in(self):
        wrong = [(), ("lines",), ("cube",), "cube", ["ring", 5], {"ring": 5}, ("ring", (5,)), ("ring", [5]), ("ring", {}),
                 ("ring", "5"), ("ring", None), (5, "ring"), (["ring"], 5), ({}, 5), (("ring",), 5), ({"ring": 5}, 5),
                 ([], []), ({}, {}, {}), ("two", 1, [1]), ("two", {}, 1), ("two", (1, 1)), (None, 5), (True, 5), ("ring", 5, 1),
                 ("spokes", 5), ("two", 3), ("spokes", 5, 2, 0), ("spokes", [5], 2), ("spokes", 5, None), ("ring ", 5),
                 ("ring", 10 ** 39), ("two", 10 ** 39, -(10 ** 39))]
        for thing in NEVER + wrong + [(thing, 5) for thing in NEVER] + [("ring", thing) for thing in NEVER]:
            self.assertIs(kind_good(thing), False, thing)
            for call in CALLS:
                self.assertEqual(fields_of(call, thing), NO_LINE, thing)

    def test_truths_are_no_numbers(self):
        for thing in [("cube", True), ("cube", False), ("full", True), ("two", True, 1), ("two", 1, True),
                      ("spokes", 5, True), ("spokes", 3, True)]:
            self.assertIs(kind_good(thing), False, thing)
            for call in CALLS:
                self.assertEqual(fields_of(call, thing), NO_LINE, thing)

    def test_webs(self):
        for kind in plain_kinds():
            self.assertIs(kind_good(kind), True)
            self.assertEqual(web_by(kind), plain_web(kind), kind)
            self.assertIs(web_good(web_by(kind)), True)

    def test_webs_by_hand(self):
        for kind, web in [
                (("cube", 0), (1, ())), (("cube", 1), (2, ((0, 1),))), (("cube", 2), (4, ((0, 1), (0, 2), (1, 3), (2, 3)))),
                (("full", 1), (1, ())), (("full", 2), (2, ((0, 1),))), (("ring", 3), (3, ((0, 1), (0, 2), (1, 2)))),
                (("ladder", 3), (6, ((0, 1), (0, 2), (0, 3), (1, 2), (1, 4), (2, 5), (3, 4), (3, 5), (4, 5)))),
                (("twisted", 2), (4, ((0, 1), (0, 2), (0, 3), (1, 2), (1, 3), (2, 3)))),
                (("twisted", 3), (6, ((0, 1), (0, 3), (0, 5), (1, 2), (1, 4), (2, 3), (2, 5), (3, 4), (4, 5)))),
                (("two", 1, 1), (2, ((0, 1),))), (("two", 1, 2), (3, ((0, 1), (0, 2)))),
                (("two", 2, 1), (3, ((0, 2), (1, 2)))),
                (("spokes", 5, 2), (10, ((0, 1), (0, 4), (0, 5), (1, 2), (1, 6), (2, 3), (2, 7), (3, 4), (3, 8), (4, 9),
                                         (5, 7), (5, 8), (6, 8), (6, 9), (7, 9))))]:
            self.assertEqual(web_by(kind), web, kind)
        self.assertEqual(near_of(web_by(("lines", 7)), 7), (0, 1, 3))
        self.assertEqual(near_of(web_by(("lines", 7)), 13), (0, 2, 6))
        self.assertEqual(near_of(web_by(("cube", 4)), 15), (7, 11, 13, 14))


class Told(unittest.TestCase):
    """[6.2]"""

    def test_all(self):
        for kind in plain_kinds():
            web = plain_web(kind)
            self.assertEqual(kind_counts(kind), (web[0], len(web[1])), kind)
            self.assertIs(type(kind_counts(kind)), tuple)
            self.assertEqual(kind_even(kind), plain_even(web), kind)
            self.assertEqual(kind_ring(kind), plain_ring(web), kind)

    def test_by_hand(self):
        for kind, counts, even, ring in [
                (("cube", 0), (1, 0), 0, None), (("cube", 1), (2, 1), 1, None), (("cube", 4), (16, 32), 4, 4),
                (("full", 1), (1, 0), 0, None), (("full", 16), (16, 120), 15, 3), (("ladder", 3), (6, 9), 3, 3),
                (("ladder", 8), (16, 24), 3, 4), (("lines", 7), (14, 21), 3, 6), (("ring", 3), (3, 3), 2, 3),
                (("ring", 16), (16, 16), 2, 16), (("spokes", 3, 1), (6, 9), 3, 3), (("spokes", 5, 2), (10, 15), 3, 5),
                (("spokes", 6, 2), (12, 18), 3, 3), (("spokes", 8, 3), (16, 24), 3, 6), (("twisted", 2), (4, 6), 3, 3),
                (("twisted", 8), (16, 24), 3, 4), (("two", 1, 1), (2, 1), 1, None), (("two", 1, 15), (16, 15), None, None),
                (("two", 15, 1), (16, 15), None, None), (("two", 8, 8), (16, 64), 8, 4), (("two", 2, 3), (5, 6), None, 4)]:
            self.assertEqual((kind_counts(kind), kind_even(kind), kind_ring(kind)), (counts, even, ring), kind)


class Fitting(unittest.TestCase):
    """[6.3]"""

    def test_all(self):
        told = [(kind, plain_even(plain_web(kind)), plain_ring(plain_web(kind))) for kind in plain_kinds()]
        for d, g in itertools.product(range(16), range(3, 17)):
            due = [kind for kind, even, ring in told if even == d and (ring is None or ring >= g)]
            self.assertEqual(kinds_fit_by(d, g), due, (d, g))

    def test_by_hand(self):
        self.assertEqual(kinds_fit_by(0, 3), [("cube", 0), ("full", 1)])
        self.assertEqual(kinds_fit_by(0, 16), [("cube", 0), ("full", 1)])
        self.assertEqual(kinds_fit_by(1, 16), [("cube", 1), ("full", 2), ("two", 1, 1)])
        self.assertEqual(kinds_fit_by(2, 16), [("ring", 16)])
        self.assertEqual(kinds_fit_by(3, 5), [("lines", 7), ("spokes", 5, 2), ("spokes", 7, 2), ("spokes", 7, 3),
                                              ("spokes", 8, 3)])
        self.assertEqual(kinds_fit_by(3, 6), [("lines", 7), ("spokes", 8, 3)])
        self.assertEqual(kinds_fit_by(15, 3), [("full", 16)])
        self.assertEqual(kinds_fit_by(15, 4), [])

    def test_no_number(self):
        for thing in WRONG_D:
            self.assertEqual(fields_of(kinds_fit_by, thing, 5), NO_NUMBER, thing)
        for thing in WRONG_G:
            self.assertEqual(fields_of(kinds_fit_by, 3, thing), NO_NUMBER, thing)
            self.assertEqual(fields_of(kinds_fit_by, thing, thing), NO_NUMBER, thing)

    def test_kind_of(self):
        first = {}
        for kind in plain_kinds():
            first.setdefault(plain_web(kind), kind)
        others = known_webs() + [mixed(plain_web(kind), 2) for kind in plain_kinds()]
        for web in list(first) + list(small_webs(5)) + others[::3]:
            self.assertEqual(kind_of(web), first.get(web), web)

    def test_kind_of_by_hand(self):
        for web, kind in [((1, ()), ("cube", 0)), ((2, ((0, 1),)), ("cube", 1)), ((2, ()), None), ((16, ()), None),
                          (full_web(3), ("full", 3)), (full_web(4), ("full", 4)), (ring_web(4), ("ring", 4)),
                          (cube_web(2), ("cube", 2)), (spokes_web(5, 1), ("ladder", 5)), (PETERSEN, ("spokes", 5, 2)),
                          (LINES, ("lines", 7)), (two_sided_web(1, 2), ("two", 1, 2)), (row_web(3), None),
                          (SEVERAL, None), (two_sided_web(8, 8), ("two", 8, 8)), (mixed(PETERSEN, 1), None)]:
            self.assertEqual(kind_of(web), kind, web)

    def test_soon(self):
        for d in range(16):
            within(SOON, kinds_fit_by, d, 3)
        within(SOON, kind_of, (16, ()))


class Over(unittest.TestCase):
    """[6.4]"""

    def test_ladders_are_spokes(self):
        for n in range(3, 9):
            self.assertEqual(web_by(("spokes", n, 1)), web_by(("ladder", n)))

    def test_as_few_places_as_by_growth(self):
        for kind, g in [(("lines", 7), 6), (("spokes", 5, 2), 5)]:
            web = web_by(kind)
            self.assertIs(fits(web, 3, g), True)
            self.assertEqual(surplus(web, 3, g), 0)
            self.assertEqual(web[0], least_by_growth(3, g))
            self.assertIn(kind, kinds_fit_by(3, g))

    def test_any_two_lines_have_one_place_in_common(self):
        web = web_by(("lines", 7))
        for one, other in itertools.combinations(range(7, 14), 2):
            self.assertEqual(len(set(near_of(web, one)) & set(near_of(web, other))), 1)

    def test_full_webs(self):
        for n in range(1, 17):
            self.assertEqual(kind_ring(("full", n)), 3 if n >= 3 else None)

    def test_fitting_kinds_fit(self):
        for d, g in itertools.product(range(16), (3, 4, 5, 6, 16)):
            for kind in kinds_fit_by(d, g):
                self.assertIs(plain_fits(web_by(kind), d, g), True)
                self.assertEqual(kind_even(kind), d)


if __name__ == "__main__":
    unittest.main()
