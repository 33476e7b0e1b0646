"""Stage 8: betterings."""

import itertools
import random
import unittest

from noshortring.betterings import (better_crossing, climbed, crossed, crossings_of, is_better, spliced, unspliced)
from noshortring.webs import even_by, web_good
from tests.helper import (LATE, LINES, NEVER, PETERSEN, SEVERAL, cube_web, even_webs, fields_of, full_web, known_webs, made,
                          mixed, outcome, plain_even, plain_merit, plain_nears, plain_ring, ring_web, row_web,
                          scattered_webs, small_webs, spokes_web, theta_web, tied, two_sided_web, within, without)

NO_PLACE = ("NoPlace", {})
NO_LINE = ("NoLine", {})
NO_WEB = ("NoWeb", {"number": -1})
# Rows of the program that a question may take.
SOON = 500000


def plain_crossed(web, a, b, c, e):
    """The web crossed, by the words of 8.1, or the refusal."""
    if any(place not in range(web[0]) for place in (a, b, c, e)):
        return NO_PLACE
    if len({a, b, c, e}) < 4 or not tied(web, a, b) or not tied(web, c, e) or tied(web, a, c) or tied(web, b, e):
        return NO_LINE
    gone = [{a, b}, {c, e}]
    return made(web[0], [tie for tie in web[1] if set(tie) not in gone] + [(a, c), (b, e)])


def plain_spliced(web, a, b, c, e):
    """The web spliced, by the words of 8.2, or the refusal."""
    if any(place not in range(web[0]) for place in (a, b, c, e)):
        return NO_PLACE
    if not tied(web, a, b) or not tied(web, c, e) or {a, b} == {c, e}:
        return NO_LINE
    x = web[0]
    if x + 2 > 16:
        return ("TooGreat", {"many": x + 2, "most": 16})
    gone = [{a, b}, {c, e}]
    more = [(x, a), (x, b), (x + 1, c), (x + 1, e), (x, x + 1)]
    return made(x + 2, [tie for tie in web[1] if set(tie) not in gone] + more)


def plain_unspliced(web, x, y):
    """The web unspliced, by the words of 8.2, or the refusal."""
    if any(place not in range(web[0]) for place in (x, y)):
        return NO_PLACE
    if not tied(web, x, y):
        return NO_LINE
    nears = plain_nears(web)
    if len(nears[x]) != 3 or len(nears[y]) != 3:
        return NO_LINE
    one = set(nears[x]) - {y}
    other = set(nears[y]) - {x}
    if one == other or tied(web, *one) or tied(web, *other):
        return NO_LINE
    anew = {place: place - (place > x) - (place > y) for place in range(web[0])}
    pairs = [tie for tie in web[1] if not {x, y} & set(tie)] + [tuple(one), tuple(other)]
    return made(web[0] - 2, [(anew[a], anew[b]) for a, b in pairs])


def plain_crossings(web):
    return [four for four in itertools.permutations(range(web[0]), 4)
            if four[0] == min(four) and plain_crossed(web, *four) != NO_LINE]


def plain_better(web):
    for four in plain_crossings(web):
        if plain_merit(plain_crossed(web, *four)) > plain_merit(web):
            return four
    return None


def webs_of_eight():
    """Webs of at most eight places, of all sizes, with rings and without."""
    some = [web for web in known_webs() + even_webs() if web[0] <= 8]
    chance = random.Random(8)
    for many in (6, 7, 8, 8):
        pairs = list(itertools.combinations(range(many), 2))
        some += [made(many, chance.sample(pairs, size)) for size in range(4, len(pairs), 2)]
    return some


def fours(web, seed):
    """Rows of four places to try: along ties, some that have an end in common, and some by chance."""
    chance = random.Random(seed)
    rows = [chance.choices(range(-1, web[0] + 1), k=4) for turn in range(10)]
    for turn in range(25 if web[1] else 0):
        one, other = chance.choice(web[1]), chance.choice(web[1])
        rows.append(chance.choice([one, one[::-1]]) + chance.choice([other, other[::-1]]))
    return [tuple(row) for row in rows]


class Crossed(unittest.TestCase):
    """[8.1]"""

    def test_all_rows_of_places_of_small_webs(self):
        for web in list(small_webs(4)) + list(small_webs(5))[75::40]:
            for four in itertools.product(range(web[0]), repeat=4):
                self.assertEqual(outcome(crossed, web, *four), plain_crossed(web, *four), (web, four))

    def test_webs_of_all_sizes(self):
        seen = {"told": 0, "NoPlace": 0, "NoLine": 0}
        for web in known_webs() + even_webs():
            for four in fours(web, 1):
                told = outcome(crossed, web, *four)
                self.assertEqual(told, plain_crossed(web, *four), (web, four))
                seen[told[0] if told[0] in seen else "told"] += 1
        self.assertGreater(min(seen.values()), 100)

    def test_by_hand(self):
        self.assertEqual(crossed((4, ((0, 1), (2, 3))), 0, 1, 2, 3), (4, ((0, 2), (1, 3))))
        self.assertEqual(crossed((4, ((0, 1), (2, 3))), 1, 0, 2, 3), (4, ((0, 3), (1, 2))))
        self.assertEqual(crossed(ring_web(4), 0, 1, 2, 3), made(4, [(0, 2), (1, 3), (0, 3), (1, 2)]))
        self.assertEqual(crossed(ring_web(16), 15, 0, 7, 8),
                         made(16, [(15, 7), (0, 8)] + [(a, a + 1) for a in range(15) if a != 7]))
        for four in [(0, 1, 3, 2), (0, 0, 2, 3), (0, 1, 1, 2), (0, 1, 0, 3), (0, 1, 0, 1), (0, 2, 1, 3), (0, 1, 2, 2)]:
            self.assertEqual(fields_of(crossed, ring_web(4), *four), NO_LINE, four)

    def test_each_may_be_no_place(self):
        for web, good in [(ring_web(4), (0, 1, 2, 3)), (PETERSEN, (0, 1, 2, 7)), (row_web(16), (0, 1, 14, 15)),
                          ((1, ()), (0, 0, 0, 0))]:
            for thing in NEVER + [web[0], (0,), (0, 1), [0], [1], {1: 2}]:
                for call in (crossed, spliced):
                    for at in range(4):
                        four = list(good)
                        four[at] = thing
                        self.assertEqual(fields_of(call, web, *four), NO_PLACE, four)
                    self.assertEqual(fields_of(call, web, thing, thing, thing, thing), NO_PLACE)

    def test_no_place_ahead_of_no_line(self):
        for call in (crossed, spliced):
            for thing in (None, True, -1, 10, [0], "0"):
                for four in [(0, 0, 0, thing), (0, 2, thing, 2), (thing, 0, 0, 0), (0, thing, 1, 1), (0, 2, 2, thing)]:
                    self.assertEqual(fields_of(call, PETERSEN, *four), NO_PLACE, four)


class Spliced(unittest.TestCase):
    """[8.2]"""

    def test_all_rows_of_places_of_small_webs(self):
        for web in list(small_webs(4)) + list(small_webs(5))[75::40]:
            for four in itertools.product(range(web[0]), repeat=4):
                self.assertEqual(outcome(spliced, web, *four), plain_spliced(web, *four), (web, four))

    def test_webs_of_all_sizes(self):
        seen = {"told": 0, "NoPlace": 0, "NoLine": 0, "TooGreat": 0}
        for web in known_webs() + even_webs():
            for four in fours(web, 2):
                told = outcome(spliced, web, *four)
                self.assertEqual(told, plain_spliced(web, *four), (web, four))
                seen[told[0] if told[0] in seen else "told"] += 1
        self.assertGreater(min(seen.values()), 100)

    def test_by_hand(self):
        self.assertEqual(spliced((3, ((0, 1), (1, 2))), 0, 1, 1, 2), made(5, [(0, 3), (1, 3), (1, 4), (2, 4), (3, 4)]))
        self.assertEqual(spliced((4, ((0, 1), (2, 3))), 3, 2, 0, 1),
                         made(6, [(2, 4), (3, 4), (0, 5), (1, 5), (4, 5)]))
        self.assertEqual(spliced(full_web(4), 0, 1, 2, 3),
                         made(6, [(0, 2), (0, 3), (1, 2), (1, 3), (0, 4), (1, 4), (2, 5), (3, 5), (4, 5)]))
        for four in [(0, 1, 0, 1), (0, 1, 1, 0), (0, 0, 0, 1), (0, 2, 0, 1), (0, 1, 2, 2), (0, 1, 0, 2)]:
            self.assertEqual(fields_of(spliced, ring_web(4), *four), NO_LINE, four)

    def test_sixteen_places_and_more(self):
        for many in range(3, 17):
            due = ("TooGreat", {"many": many + 2, "most": 16}) if many > 14 else None
            self.assertEqual(fields_of(spliced, ring_web(many), 0, 1, 1, 2), due, many)
        self.assertEqual(spliced(ring_web(14), 0, 1, 7, 8)[0], 16)

    def test_no_line_ahead_of_too_great(self):
        for web in (ring_web(15), ring_web(16), row_web(16)):
            for four in [(0, 1, 0, 1), (0, 1, 1, 0), (0, 2, 3, 4), (3, 4, 0, 2), (0, 0, 3, 4)]:
                self.assertEqual(fields_of(spliced, web, *four), NO_LINE, four)
            self.assertEqual(fields_of(spliced, web, 0, 1, 0, 16), NO_PLACE)
            self.assertEqual(fields_of(spliced, web, 0, 1, 1, 2), ("TooGreat", {"many": web[0] + 2, "most": 16}))


class Unspliced(unittest.TestCase):
    """[8.2]"""

    def check(self, web):
        seen = 0
        for x, y in itertools.product(range(-1, web[0] + 1), repeat=2):
            told = outcome(unspliced, web, x, y)
            self.assertEqual(told, plain_unspliced(web, x, y), (web, x, y))
            seen += type(told[0]) is int
        return seen

    def test_webs_of_few_places(self):
        self.assertGreater(sum(self.check(web) for web in list(small_webs(5))[::3]), 20)

    def test_webs_of_all_sizes(self):
        self.assertGreater(sum(self.check(web) for web in known_webs() + even_webs()), 500)

    def test_by_hand(self):
        self.assertEqual(unspliced(made(5, [(0, 3), (1, 3), (1, 4), (2, 4), (3, 4)]), 3, 4), (3, ((0, 1), (1, 2))))
        # The places 0 and 2 go, so that 1, 3, 4 and 5 are 0, 1, 2 and 3.
        web = made(6, [(0, 2), (0, 1), (0, 4), (2, 3), (2, 5), (1, 3)])
        self.assertEqual(unspliced(web, 0, 2), (4, ((0, 1), (0, 2), (1, 3))))
        self.assertEqual(unspliced(web, 2, 0), (4, ((0, 1), (0, 2), (1, 3))))
        self.assertEqual(unspliced(two_sided_web(3, 3), 0, 3), full_web(4))

    def test_what_can_not_be_unspliced(self):
        good = made(6, [(0, 1), (0, 2), (0, 3), (1, 4), (1, 5)])
        self.assertIsNone(fields_of(unspliced, good, 0, 1))
        others = [(good, 0, 0), (good, 0, 4), (good, 2, 3), (good, 0, 2), (without(good, (0, 3)), 0, 1),
                  (without(good, (1, 5)), 0, 1), (made(7, list(good[1]) + [(0, 6)]), 0, 1),
                  (made(7, list(good[1]) + [(1, 6)]), 0, 1), (made(6, list(good[1]) + [(2, 3)]), 0, 1),
                  (made(6, list(good[1]) + [(4, 5)]), 0, 1), (without(full_web(4), (2, 3)), 0, 1), (full_web(4), 0, 1),
                  ((1, ()), 0, 0), (row_web(2), 0, 1)]
        for web, x, y in others:
            self.assertEqual(fields_of(unspliced, web, x, y), NO_LINE, (web, x, y))
            self.assertEqual(fields_of(unspliced, web, y, x), NO_LINE, (web, x, y))

    def test_no_place(self):
        for web in [PETERSEN, (1, ()), row_web(16)]:
            for thing in NEVER + [web[0], (0,), (0, 1), [0]]:
                self.assertEqual(fields_of(unspliced, web, thing, 0), NO_PLACE, thing)
                self.assertEqual(fields_of(unspliced, web, 0, thing), NO_PLACE, thing)
                self.assertEqual(fields_of(unspliced, web, thing, thing), NO_PLACE, thing)


class Better(unittest.TestCase):
    """[8.3]"""

    def test_as_counted(self):
        webs = known_webs() + [LINES, cube_web(4), two_sided_web(8, 8), spokes_web(8, 3), full_web(8)]
        told = [(web, plain_merit(web)) for web in webs]
        seen = 0
        for (one, merit), (other, less) in itertools.product(told, repeat=2):
            if one[0] == other[0]:
                self.assertIs(is_better(one, other), merit > less, (one, other))
                seen += merit > less
            else:
                self.assertEqual(fields_of(is_better, one, other), NO_WEB, (one, other))
        self.assertGreater(seen, 300)

    def test_all_webs_of_four_places(self):
        told = [(web, plain_merit(web)) for web in small_webs(4)]
        for (one, merit), (other, less) in itertools.product(told, repeat=2):
            due = NO_WEB if one[0] != other[0] else merit > less
            self.assertEqual(outcome(is_better, one, other), due)

    def test_by_hand(self):
        free = row_web(16)
        self.assertIs(is_better(free, ring_web(16)), True)
        self.assertIs(is_better(ring_web(16), free), False)
        self.assertIs(is_better(free, (16, ())), False)
        self.assertIs(is_better((16, ()), free), False)
        self.assertIs(is_better(free, free), False)
        self.assertIs(is_better(ring_web(16), ring_web(16)), False)
        self.assertIs(is_better(ring_web(4), made(4, [(0, 1), (1, 2), (2, 0)])), True)
        one = made(6, [(0, 1), (1, 2), (2, 0)])
        two = made(6, [(0, 1), (1, 2), (2, 0), (3, 4), (4, 5), (5, 3)])
        self.assertIs(is_better(one, two), True)
        self.assertIs(is_better(two, one), False)
        self.assertIs(is_better(one, mixed(one, 2)), False)
        # As many rings, which are longer; more rings, which are longer.
        self.assertIs(is_better(ring_web(6), one), True)
        self.assertIs(is_better(two_sided_web(3, 3), one), True)
        self.assertIs(is_better(theta_web(4, 5, 5), theta_web(4, 4, 6)), True)

    def test_no_web(self):
        for many in range(1, 16):
            for one, other in [((many, ()), (many + 1, ())), (row_web(many + 1), row_web(many)), ((many, ()), (16, ()))]:
                self.assertEqual(fields_of(is_better, one, other), NO_WEB)
        for thing in NEVER + [(3, [(0, 1)]), [3, ()], (3,), (3, (), ()), (True, ()), (1, ([],)), (17, ()), (0, ()), 3]:
            self.assertEqual(fields_of(is_better, (3, ()), thing), NO_WEB, thing)
            self.assertEqual(fields_of(is_better, thing, (3, ())), NO_WEB, thing)
            self.assertEqual(fields_of(is_better, thing, thing), NO_WEB, thing)


class Crossings(unittest.TestCase):
    """[8.4]"""

    def test_all_of_them(self):
        seen = 0
        for web in list(small_webs(4)) + list(small_webs(5))[75::7] + webs_of_eight():
            told = crossings_of(web)
            self.assertIs(type(told), list)
            self.assertEqual(told, plain_crossings(web), web)
            self.assertEqual(told, sorted(set(told)))
            seen += len(told)
        self.assertGreater(seen, 1000)

    def test_they_are_those_that_are_not_refused(self):
        for web in webs_of_eight()[::6]:
            due = [four for four in itertools.product(range(web[0]), repeat=4)
                   if fields_of(crossed, web, *four) is None and four[0] < min(four[1:])]
            self.assertEqual(crossings_of(web), due)

    def test_the_first_better_one(self):
        none = 0
        for web in list(small_webs(4)) + list(small_webs(5))[75::11] + webs_of_eight():
            told = better_crossing(web)
            self.assertEqual(told, plain_better(web), web)
            none += told is None
        self.assertGreater(none, 10)

    def test_climbing(self):
        most = 0
        for web in list(small_webs(5))[75::23] + webs_of_eight():
            due = [web]
            while plain_better(due[-1]) is not None:
                due.append(plain_crossed(due[-1], *plain_better(due[-1])))
            told = climbed(web)
            self.assertIs(type(told), list)
            self.assertEqual(told, due, web)
            most = max(most, len(told))
        self.assertGreater(most, 3)

    def test_by_hand(self):
        self.assertEqual(crossings_of((4, ((0, 1), (2, 3)))), [(0, 1, 2, 3), (0, 1, 3, 2)])
        self.assertEqual(crossings_of(ring_web(4)), [(0, 1, 2, 3), (0, 3, 2, 1)])
        two = made(6, [(0, 1), (1, 2), (2, 0), (3, 4), (4, 5), (5, 3)])
        self.assertEqual(better_crossing(two), (0, 1, 3, 4))
        self.assertEqual(climbed(two), [two, made(6, [(0, 3), (1, 4), (1, 2), (2, 0), (4, 5), (5, 3)])])
        self.assertIsNone(better_crossing(ring_web(8)))
        self.assertEqual(climbed(ring_web(8)), [ring_web(8)])

    def test_none_where_there_is_none(self):
        for web in [(1, ()), (2, ()), row_web(2), row_web(3), (8, ()), full_web(8), two_sided_web(1, 7), full_web(3)]:
            self.assertEqual(crossings_of(web), [], web)
            self.assertIsNone(better_crossing(web))
            self.assertEqual(climbed(web), [web])
        # There are crossings, but none that betters.
        for web in [row_web(8), ring_web(8), two_sided_web(4, 4)]:
            self.assertIsNone(better_crossing(web))
            self.assertEqual(climbed(web), [web])

    def test_eight_and_nine_places(self):
        for many in range(1, 17):
            due = ("TooGreat", {"many": many, "most": 8}) if many > 8 else None
            for web in [(many, ()), row_web(many), full_web(many)]:
                for call in (crossings_of, better_crossing, climbed):
                    self.assertEqual(fields_of(call, web), due, web)
        for web in [PETERSEN, SEVERAL, ring_web(9)]:
            for call in (crossings_of, better_crossing, climbed):
                self.assertEqual(fields_of(call, web), ("TooGreat", {"many": web[0], "most": 8}))

    def test_soon(self):
        for web in webs_of_eight() + [LATE, cube_web(3), spokes_web(4, 1)]:
            within(SOON, climbed, web)


class Over(unittest.TestCase):
    """[8.5]"""

    def test_as_many_ties_at_each_place_and_crossed_back(self):
        seen = 0
        for web in known_webs() + even_webs():
            for a, b, c, e in fours(web, 3):
                if fields_of(crossed, web, a, b, c, e) is None:
                    seen += 1
                    other = crossed(web, a, b, c, e)
                    self.assertIs(web_good(other), True)
                    self.assertEqual([len(near) for near in plain_nears(other)], [len(near) for near in plain_nears(web)])
                    self.assertEqual(crossed(other, a, c, b, e), web)
        self.assertGreater(seen, 300)

    def test_spliced_webs_are_unspliced(self):
        seen = 0
        for web in known_webs() + even_webs():
            for a, b, c, e in fours(web, 4):
                if fields_of(spliced, web, a, b, c, e) is None:
                    seen += 1
                    other = spliced(web, a, b, c, e)
                    self.assertIs(web_good(other), True)
                    x, y = web[0], web[0] + 1
                    self.assertEqual([len(near) for near in plain_nears(other)],
                                     [len(near) for near in plain_nears(web)] + [3, 3])
                    self.assertEqual(unspliced(other, x, y), web)
                    self.assertEqual(unspliced(other, y, x), web)
        self.assertGreater(seen, 300)

    def test_even_by_three_stays_even_by_three(self):
        for web in [full_web(4), two_sided_web(3, 3), cube_web(3), PETERSEN, spokes_web(6, 1), LINES]:
            for one, other in itertools.combinations(web[1], 2):
                self.assertEqual(even_by(spliced(web, *one, *other)), 3)

    def test_climbing_goes_up(self):
        for web in webs_of_eight() + [web for web in scattered_webs() if web[0] <= 8]:
            webs = climbed(web)
            self.assertEqual(webs[0], web)
            for one, other in zip(webs, webs[1:]):
                self.assertIs(is_better(other, one), True)
                self.assertIs(is_better(one, other), False)
                self.assertEqual(plain_even(other), plain_even(one))
                self.assertTrue(plain_ring(other) is None or plain_ring(other) >= plain_ring(one))
            self.assertIsNone(better_crossing(webs[-1]))
            self.assertEqual(climbed(webs[-1]), [webs[-1]])


if __name__ == "__main__":
    unittest.main()
