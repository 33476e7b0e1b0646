"""Stage 7: small ones all."""

import itertools
import math
import unittest

from noshortring.allsmall import (all_fit, all_fit_many, fewest_places, first_fit, kinds_fit, kinds_many, least_form,
                                  own_many)
from noshortring.fewest import fits, least_fit
from noshortring.webs import renamed, web_good
from tests.helper import (NEVER, PETERSEN, TooLong, cube_web, even_webs, fields_of, full_web, made, mixed, plain_even, plain_fits,
                          plain_ring, ring_web, row_web, scattered_webs, small_webs, spokes_web, two_sided_web, within)

NO_NUMBER = ("NoNumber", {})
ALL_D = range(7)
SOME_G = (3, 4, 5, 6, 7, 8, 16)
WRONG_MANY = NEVER + [0, 8, 16, (3,), [3], (3, ())]
WRONG_D = NEVER + [7, 15, (3,), [3]]
WRONG_G = NEVER + [0, 1, 2, 17, (3,), [3]]
OF_THREE = (all_fit_many, first_fit, all_fit, kinds_fit, kinds_many)
# Rows of the program that a question may take; all webs of seven places, two millions, would take far more.
SOON = 4000000
# How many webs of so many places are even by so many ties.
EVEN_MANY = {(6, 1): 15, (6, 2): 70, (6, 3): 70, (6, 4): 15, (6, 5): 1, (7, 2): 465, (7, 4): 465, (7, 6): 1,
             (5, 2): 12, (5, 4): 1, (4, 1): 3, (4, 2): 3, (4, 3): 1, (3, 2): 1, (2, 1): 1}


def plain_forms(web):
    """All orders of the places, with the web renamed by each."""
    return [(names, made(web[0], [(names[a], names[b]) for a, b in web[1]]))
            for names in itertools.permutations(range(web[0]))]


def plain_least(web):
    return min(form for names, form in plain_forms(web))


def plain_own(web):
    return sum(form == web for names, form in plain_forms(web))


def even_small_webs():
    """All webs of at most six places that are even, with their ties at each place and their shortest ring."""
    told = [(web, plain_even(web)) for web in small_webs(5)]
    pairs = list(itertools.combinations(range(6), 2))
    for taken in range(2 ** 15):
        counts = [0] * 6
        for bit, (a, b) in enumerate(pairs):
            if taken >> bit & 1:
                counts[a] += 1
                counts[b] += 1
        if len(set(counts)) == 1:
            told.append(((6, tuple(pair for bit, pair in enumerate(pairs) if taken >> bit & 1)), counts[0]))
    return [(web, even, plain_ring(web)) for web, even in told if even is not None]


class AllFit(unittest.TestCase):
    """[7.1], and [7.4]"""

    def test_as_by_going_through_all(self):
        told = even_small_webs()
        for d, g in itertools.product(ALL_D, range(3, 17)):
            fewest = None
            for many in range(1, 7):
                due = sorted(web for web, even, ring in told
                             if web[0] == many and even == d and (ring is None or ring >= g))
                self.assertEqual(all_fit(many, d, g), due, (many, d, g))
                self.assertEqual(all_fit_many(many, d, g), len(due), (many, d, g))
                self.assertEqual(first_fit(many, d, g), due[0] if due else None, (many, d, g))
                if due and fewest is None:
                    fewest = many
            if fewest is not None:
                self.assertEqual(fewest_places(d, g), fewest, (d, g))

    def test_how_many(self):
        for many, d in itertools.product(range(1, 8), ALL_D):
            due = 1 if d == 0 else EVEN_MANY.get((many, d), 0)
            self.assertEqual(all_fit_many(many, d, 3), due, (many, d))

    def test_seven_places(self):
        for d, g in itertools.product(ALL_D, SOME_G):
            due = {(2, 3): 465, (4, 3): 465, (6, 3): 1}.get((d, g), 0)
            if d == 0:
                due = 1
            elif d == 2 and 3 < g <= 7:
                due = 360
            self.assertEqual(all_fit_many(7, d, g), due, (d, g))

    def test_seven_places_turned_about(self):
        """A web even by 2 has the ties that one even by 4 lacks: both first ones by going through all rings."""
        rings = {made(7, zip(row, row[1:] + row[:1])) for row in itertools.permutations(range(7))}
        for three in itertools.combinations(range(7), 3):
            four = [place for place in range(7) if place not in three]
            for row in itertools.permutations(four):
                rings.add(made(7, list(itertools.combinations(three, 2)) + list(zip(row, row[1:] + row[:1]))))
        self.assertEqual(len(rings), 465)
        self.assertEqual(first_fit(7, 2, 3), min(rings))
        self.assertEqual(first_fit(7, 2, 4), min(web for web in rings if plain_ring(web) == 7))
        self.assertEqual(first_fit(7, 4, 3), min(made(7, set(full_web(7)[1]) - set(web[1])) for web in rings))

    def test_by_hand(self):
        self.assertEqual(all_fit(1, 0, 3), [(1, ())])
        self.assertEqual(all_fit(1, 0, 16), [(1, ())])
        self.assertEqual(all_fit(7, 0, 16), [(7, ())])
        self.assertEqual(all_fit(7, 6, 3), [full_web(7)])
        self.assertEqual(all_fit(7, 6, 4), [])
        self.assertEqual(all_fit(4, 1, 16), [(4, ((0, 1), (2, 3))), (4, ((0, 2), (1, 3))), (4, ((0, 3), (1, 2)))])
        self.assertEqual(len(all_fit(6, 3, 4)), 10)
        self.assertEqual(first_fit(6, 3, 4), made(6, [(a, b) for a in (0, 4, 5) for b in (1, 2, 3)]))
        self.assertEqual(first_fit(5, 2, 5), (5, ((0, 1), (0, 2), (1, 3), (2, 4), (3, 4))))
        self.assertIsNone(first_fit(5, 2, 6))
        self.assertIsNone(first_fit(7, 3, 3))
        self.assertIsNone(first_fit(1, 1, 3))
        self.assertIsNone(first_fit(1, 6, 3))

    def test_more_than_two_hundred(self):
        for d, g in itertools.product(ALL_D, SOME_G):
            many = all_fit_many(7, d, g)
            due = ("TooGreat", {"many": many, "most": 200}) if many > 200 else None
            self.assertEqual(fields_of(all_fit, 7, d, g), due, (d, g))
            if due is None:
                self.assertEqual(len(all_fit(7, d, g)), many)
        self.assertEqual(fields_of(all_fit, 7, 2, 3), ("TooGreat", {"many": 465, "most": 200}))
        self.assertEqual(fields_of(all_fit, 7, 2, 7), ("TooGreat", {"many": 360, "most": 200}))

    def test_told_webs(self):
        for many, d, g in itertools.product(range(1, 8), ALL_D, (3, 4, 7)):
            first = first_fit(many, d, g)
            self.assertEqual(first is None, all_fit_many(many, d, g) == 0)
            if first is not None:
                self.assertIs(web_good(first), True)
                self.assertIs(plain_fits(first, d, g), True)
            if all_fit_many(many, d, g) <= 200:
                webs = all_fit(many, d, g)
                self.assertEqual(webs, sorted(set(webs)))
                self.assertEqual(webs[:1], [first] if webs else [])
                self.assertTrue(all(web[0] == many and plain_fits(web, d, g) for web in webs))

    def test_no_number(self):
        for call in OF_THREE:
            for thing in WRONG_MANY:
                self.assertEqual(fields_of(call, thing, 2, 3), NO_NUMBER, thing)
            for thing in WRONG_D:
                self.assertEqual(fields_of(call, 7, thing, 3), NO_NUMBER, thing)
            for thing in WRONG_G:
                self.assertEqual(fields_of(call, 7, 2, thing), NO_NUMBER, thing)
                self.assertEqual(fields_of(call, thing, thing, thing), NO_NUMBER, thing)

    def test_fewest_places(self):
        for d, g in itertools.product(ALL_D, range(3, 17)):
            due = {(3, 3): 4, (3, 4): 6, (4, 3): 5, (5, 3): 6, (6, 3): 7}.get((d, g))
            if d < 2:
                due = d + 1
            elif d == 2 and g <= 7:
                due = g
            self.assertEqual(fewest_places(d, g), due, (d, g))

    def test_fewest_places_no_number(self):
        for thing in WRONG_D:
            self.assertEqual(fields_of(fewest_places, thing, 3), NO_NUMBER, thing)
        for thing in WRONG_G:
            self.assertEqual(fields_of(fewest_places, 2, thing), NO_NUMBER, thing)
            self.assertEqual(fields_of(fewest_places, thing, thing), NO_NUMBER, thing)


class LeastForm(unittest.TestCase):
    """[7.2]"""

    def check(self, web):
        self.assertEqual(least_form(web), plain_least(web), web)
        self.assertEqual(own_many(web), plain_own(web), web)

    def test_all_webs_of_four_places(self):
        for web in small_webs(4):
            self.check(web)

    def test_webs_of_five_places(self):
        for web in list(small_webs(5))[75::3]:
            self.check(web)

    def test_webs_of_six_and_seven_places(self):
        some = [web for web in scattered_webs() + even_webs() if web[0] in (6, 7)]
        some += [row_web(7), two_sided_web(1, 6), two_sided_web(3, 4), made(7, [(0, 6)]), made(7, [(5, 6), (4, 6), (4, 5)])]
        for web in some:
            self.check(web)

    def test_by_hand(self):
        for web, least, own in [((1, ()), (1, ()), 1), ((7, ()), (7, ()), 5040), (full_web(7), full_web(7), 5040),
                                (ring_web(7), made(7, [(0, 1), (0, 2), (1, 3), (2, 4), (3, 5), (4, 6), (5, 6)]), 14),
                                (made(7, [(5, 6)]), (7, ((0, 1),)), 240), (row_web(3), (3, ((0, 1), (0, 2))), 2),
                                (made(2, [(0, 1)]), (2, ((0, 1),)), 2), (two_sided_web(3, 3), None, 72),
                                (made(7, [(0, 1), (1, 2), (1, 4), (4, 5), (5, 6), (4, 3)]), None, 2)]:
            if least is not None:
                self.assertEqual(least_form(web), least)
            self.assertEqual(own_many(web), own)

    def test_renamed_webs_have_one_least_form(self):
        for web in [web for web in scattered_webs() + even_webs() if web[0] <= 7]:
            least = least_form(web)
            self.assertIs(web_good(least), True)
            self.assertLessEqual(least, web)
            self.assertEqual(least_form(least), least)
            for seed in range(4):
                other = mixed(web, seed)
                self.assertEqual(least_form(other), least)
                self.assertEqual(own_many(other), own_many(web))
            self.assertEqual(least_form(renamed(web, tuple(reversed(range(web[0]))))), least)

    def test_seven_and_eight_places(self):
        for web in [(8, ()), full_web(8), cube_web(3), PETERSEN, (16, ()), full_web(16), spokes_web(8, 3)]:
            for call in (least_form, own_many):
                self.assertEqual(fields_of(call, web), ("TooGreat", {"many": web[0], "most": 7}))
        for web in [(7, ()), full_web(7), ring_web(7)]:
            for call in (least_form, own_many):
                self.assertIsNone(fields_of(call, web))


class Kinds(unittest.TestCase):
    """[7.3]"""

    def test_all_of_at_most_six_places(self):
        told = [(plain_least(web), even, ring) for web, even, ring in even_small_webs()]
        for many, d, g in itertools.product(range(1, 7), ALL_D, SOME_G):
            due = sorted({least for least, even, ring in told
                          if least[0] == many and even == d and (ring is None or ring >= g)})
            self.assertEqual(kinds_fit(many, d, g), due, (many, d, g))
            self.assertEqual(kinds_many(many, d, g), len(due), (many, d, g))

    def test_seven_places(self):
        ring = plain_least(ring_web(7))
        parted = plain_least(made(7, [(0, 1), (1, 2), (2, 0), (3, 4), (4, 5), (5, 6), (6, 3)]))
        four = sorted(plain_least(made(7, set(full_web(7)[1]) - set(web[1]))) for web in (ring, parted))
        for d, g in itertools.product(ALL_D, SOME_G):
            due = {0: [(7, ())], 6: [full_web(7)], 4: four, 2: sorted([ring, parted])}.get(d, [])
            if g > 3 and d:
                due = [ring] if d == 2 and g <= 7 else []
            self.assertEqual(kinds_fit(7, d, g), due, (d, g))
            self.assertEqual(kinds_many(7, d, g), len(due), (d, g))

    def test_by_hand(self):
        self.assertEqual(kinds_fit(1, 0, 3), [(1, ())])
        self.assertEqual(kinds_fit(1, 1, 3), [])
        self.assertEqual(kinds_fit(6, 1, 16), [(6, ((0, 1), (2, 3), (4, 5)))])
        self.assertEqual(kinds_many(6, 3, 3), 2)
        self.assertEqual(kinds_many(6, 3, 4), 1)
        self.assertEqual(kinds_many(7, 2, 3), 2)


class Soon(unittest.TestCase):
    def test_seven_places(self):
        for d, g in itertools.product(ALL_D, SOME_G):
            for call in (all_fit_many, first_fit, kinds_fit, kinds_many):
                within(SOON, call, 7, d, g)
            within(SOON, fields_of, all_fit, 7, d, g)
            within(SOON, fewest_places, d, g)

    def test_going_through_all_would_be_told(self):
        def through_all():
            pairs = list(itertools.combinations(range(7), 2))
            for taken in range(2 ** 21):
                web = (7, tuple(pair for bit, pair in enumerate(pairs) if taken >> bit & 1))
                if fits(web, 6, 3):
                    return web

        with self.assertRaises(TooLong):
            within(SOON, through_all)

    def test_forms_of_seven_places(self):
        for web in [(7, ()), full_web(7), ring_web(7), row_web(7), two_sided_web(3, 4), two_sided_web(1, 6)]:
            within(SOON, least_form, web)
            within(SOON, own_many, web)


class Over(unittest.TestCase):
    """[7.5]"""

    def test_none_of_an_odd_number_with_an_odd_d(self):
        for many, d, g in itertools.product((1, 3, 5, 7), (1, 3, 5), (3, 4, 16)):
            self.assertEqual(all_fit_many(many, d, g), 0)
            self.assertIsNone(first_fit(many, d, g))
            self.assertEqual(all_fit(many, d, g), [])
            self.assertEqual(kinds_fit(many, d, g), [])

    def test_fewest_places_are_at_least_least_fit(self):
        for d, g in itertools.product(range(2, 7), range(3, 17)):
            fewest = fewest_places(d, g)
            if fewest is not None:
                self.assertGreaterEqual(fewest, least_fit(d, g))

    def test_how_many_by_the_kinds(self):
        for many, d, g in itertools.product(range(1, 8), ALL_D, (3, 4, 5, 16)):
            kinds = kinds_fit(many, d, g)
            due = sum(math.factorial(many) // own_many(web) for web in kinds)
            self.assertEqual(all_fit_many(many, d, g), due, (many, d, g))


if __name__ == "__main__":
    unittest.main()
