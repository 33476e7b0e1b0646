"""Stage 9: doubled and folded."""

import itertools
import random
import unittest

from noshortring.doubling import (doubled, doubled_ring, first_fold, fold_good, sides_good, sides_of)
from noshortring.webs import even_by, pieces_of, renamed, shortest, web_good
from tests.helper import (LATE, LINES, NEVER, PETERSEN, SEVERAL, TooLong, all_rings, cube_web, even_webs, fields_of, full_web,
                          known_webs, made, mixed, plain_even, plain_nears, plain_pieces, plain_ring, ring_web, row_web,
                          small_webs, spokes_web, theta_web, tied, two_sided_web, within)

# Rows of the program that a question may take; all tuples of twelve places would take far more.
SOON = 1000000


def plain_sides(web):
    """The sides, by going from the least place of each piece; None where two tied ones come to be alike."""
    sides = {}
    nears = plain_nears(web)
    for start in range(web[0]):
        if start not in sides:
            sides[start] = 0
            for place in (row := [start]):
                for near in nears[place]:
                    if near not in sides:
                        sides[near] = 1 - sides[place]
                        row.append(near)
                    elif sides[near] == sides[place]:
                        return None
    return tuple(sides[place] for place in range(web[0]))


def plain_double(web):
    many = web[0]
    return made(2 * many, [(a, many + b) for a in range(many) for b in range(many) if tied(web, a, b)])


def plain_fold(web, other, fold):
    """Whether a tuple is a fold, by the words of 9.3."""
    nears, others = plain_nears(web), plain_nears(other)
    return all(len({fold[near] for near in nears[place]}) == len(nears[place])
               and {fold[near] for near in nears[place]} == set(others[fold[place]]) for place in range(web[0]))


def first_by_rows(web, other):
    """The first fold, by going on place by place as long as no two places contradict one another."""
    nears, others = plain_nears(web), plain_nears(other)
    many = web[0]

    def agrees(row, place, choice):
        for ahead, chosen in enumerate(row):
            if ahead in nears[place] and chosen not in others[choice]:
                return False
            if chosen == choice and (ahead in nears[place] or set(nears[ahead]) & set(nears[place])):
                return False
        return len(nears[place]) == len(others[choice])

    def go_on(row):
        if len(row) == many:
            return tuple(row)
        for choice in range(other[0]):
            if agrees(row, len(row), choice):
                fold = go_on(row + [choice])
                if fold is not None:
                    return fold
        return None

    return go_on([])


def lifted(web, times, seed):
    """A web with so many places for each one of a web, tied as these are: it folds to the web."""
    chance = random.Random(seed)
    pairs = []
    for a, b in web[1]:
        order = list(range(times))
        chance.shuffle(order)
        pairs += [(a + web[0] * i, b + web[0] * order[i]) for i in range(times)]
    return made(web[0] * times, pairs)


def turned(many, *steps):
    return made(many, [(place, (place + step) % many) for place in range(many) for step in steps])


BASES = [ring_web(3), ring_web(4), ring_web(6), full_web(4), full_web(5), full_web(6), spokes_web(3, 1),
         two_sided_web(3, 3), two_sided_web(2, 3), turned(6, 1, 2), row_web(2), row_web(4),
         made(6, [(0, 1), (1, 2), (2, 0), (0, 3), (1, 4), (2, 5)]), made(4, [(0, 1), (1, 2), (2, 0), (2, 3)])]
# Of each number of ties two webs of twelve places, the second one perhaps numbered otherwise.
TWELVE = [(turned(12, 1), turned(12, 5)), (turned(12, 1, 6), spokes_web(6, 1)), (turned(12, 1, 2), turned(12, 1, 5)),
          (turned(12, 1, 3, 6), turned(12, 1, 2, 6)), (turned(12, 1, 2, 3), two_sided_web(6, 6)),
          (turned(12, 1, 2, 3, 6), turned(12, 1, 3, 4, 6)), (turned(12, 1, 2, 3, 4), turned(12, 2, 3, 4, 5)),
          (turned(12, 1, 2, 3, 4, 6), turned(12, 1, 2, 3, 5, 6)), (turned(12, 1, 2, 3, 4, 5), turned(12, 1, 2, 3, 4, 5)),
          (full_web(12), full_web(12))]


def asked():
    """Pairs of webs, the first of twelve places at the most, many of which fold to the second."""
    for number, base in enumerate(BASES):
        for times in range(1, 12 // base[0] + 1):
            web = lifted(base, times, number + times)
            yield web, base
            yield mixed(web, number), mixed(base, times)
            yield mixed(web, times), BASES[(number + times) % len(BASES)]


class Sides(unittest.TestCase):
    """[9.1]"""

    def check(self, web):
        due = plain_sides(web)
        self.assertEqual(sides_of(web), due, web)
        for thing in (due, sides_of(web)):
            self.assertIs(sides_good(web, thing), due is not None, web)

    def test_webs_of_all_sizes(self):
        for web in list(small_webs(5)) + known_webs() + even_webs():
            self.check(web)

    def test_all_rows_of_noughts_and_ones(self):
        for web in small_webs(4):
            due = plain_sides(web)
            for size in range(6):
                for row in itertools.product((0, 1), repeat=size):
                    self.assertIs(sides_good(web, row), row == due, (web, row))

    def test_just_where_there_is_an_odd_ring(self):
        for web in list(small_webs(5)) + known_webs():
            odd = any(len(ring) % 2 for ring in all_rings(web))
            self.assertEqual(sides_of(web) is None, odd, web)

    def test_by_hand(self):
        for web, due in [((1, ()), (0,)), ((16, ()), (0,) * 16), (row_web(2), (0, 1)), (ring_web(3), None),
                         (ring_web(16), (0, 1) * 8), (ring_web(15), None), (two_sided_web(2, 3), (0, 0, 1, 1, 1)),
                         (made(4, [(1, 3), (0, 2)]), (0, 0, 1, 1)), (made(4, [(1, 3)]), (0, 0, 0, 1)), (PETERSEN, None),
                         (LINES, (0,) * 7 + (1,) * 7), (SEVERAL, None), (LATE, None)]:
            self.assertEqual(sides_of(web), due, web)

    def test_all_turned_about_are_none(self):
        for web in [(1, ()), row_web(2), ring_web(16), cube_web(4), made(4, [(0, 1), (2, 3)])]:
            sides = sides_of(web)
            self.assertIs(sides_good(web, sides), True)
            self.assertIs(sides_good(web, tuple(1 - side for side in sides)), False)
        self.assertIs(sides_good(made(4, [(0, 1), (2, 3)]), (0, 1, 1, 0)), False)
        self.assertIs(sides_good((3, ()), (0, 0, 1)), False)

    def test_whatever_is_handed_in(self):
        for thing in NEVER + [(), [0, 1], (0, True), (False, 1), (False, True), (0, [1]), (0, {}), (0, None), (0, "1"), (0,),
                              (0, 1, 0), (0, 2), (0, -1), (0, 0), (1, 0), "01", {0: 0, 1: 1}, 0, 1, ((0, 1),), ([], {})]:
            self.assertIs(sides_good(row_web(2), thing), False, thing)
            self.assertIs(sides_good(ring_web(3), thing), False, thing)
            if thing != (0,):
                self.assertIs(sides_good((1, ()), thing), False, thing)
        self.assertIs(sides_good((1, ()), (False,)), False)
        self.assertIs(sides_good(row_web(2), (0, 1)), True)


class Doubled(unittest.TestCase):
    """[9.2]"""

    def test_webs_of_all_sizes(self):
        for web in list(small_webs(5))[::5] + known_webs() + even_webs():
            if web[0] <= 8:
                self.assertEqual(doubled(web), plain_double(web), web)
                self.assertIs(web_good(doubled(web)), True)

    def test_rings_of_doubles(self):
        seen = 0
        for web in list(small_webs(5))[::5] + known_webs() + even_webs():
            self.assertEqual(doubled_ring(web), plain_ring(plain_double(web)), web)
            seen += web[0] > 8
        self.assertGreater(seen, 50)

    def test_by_hand(self):
        self.assertEqual(doubled((1, ())), (2, ()))
        self.assertEqual(doubled(row_web(2)), (4, ((0, 3), (1, 2))))
        self.assertEqual(doubled(ring_web(3)), (6, ((0, 4), (0, 5), (1, 3), (1, 5), (2, 3), (2, 4))))
        self.assertEqual(doubled(ring_web(4)), made(8, [(0, 5), (5, 2), (2, 7), (7, 0), (4, 1), (1, 6), (6, 3), (3, 4)]))

    def test_sixteen_places_and_more(self):
        for many in range(1, 17):
            due = ("TooGreat", {"many": 2 * many, "most": 16}) if many > 8 else None
            for web in [(many, ()), row_web(many), full_web(many)]:
                self.assertEqual(fields_of(doubled, web), due, many)
        self.assertEqual(doubled(full_web(8))[0], 16)

    def test_rings_of_doubles_by_hand(self):
        for web, due in [((1, ()), None), ((16, ()), None), (row_web(16), None), (ring_web(16), 16), (ring_web(15), 30),
                         (ring_web(3), 6), (ring_web(4), 4), (full_web(4), 4), (full_web(16), 4), (PETERSEN, 6), (LINES, 6),
                         (spokes_web(8, 3), 6), (spokes_web(7, 2), 6), (cube_web(4), 4), (SEVERAL, 4),
                         (made(16, [(0, 1), (1, 2), (2, 0)]), 6), (theta_web(0, 14), 16), (theta_web(0, 13), 30)]:
            self.assertEqual(doubled_ring(web), due, web)
            self.assertEqual(doubled_ring(mixed(web, 3)), due, web)


class FoldGood(unittest.TestCase):
    """[9.3]"""

    def test_all_tuples_of_small_webs(self):
        seen = 0
        for web in small_webs(4):
            for other in list(small_webs(3)) + [full_web(4), ring_web(4), row_web(4)]:
                for row in itertools.product(range(other[0]), repeat=web[0]):
                    due = plain_fold(web, other, row)
                    self.assertIs(fold_good(web, other, row), due, (web, other, row))
                    seen += due
        self.assertGreater(seen, 100)

    def test_one_choice_otherwise(self):
        for web, other in list(asked())[::4]:
            fold = first_fold(web, other)
            if fold is not None:
                for place, choice in itertools.product(range(web[0]), range(other[0])):
                    row = fold[:place] + (choice,) + fold[place + 1:]
                    self.assertIs(fold_good(web, other, row), plain_fold(web, other, row), (web, other, row))

    def test_webs_of_sixteen_places(self):
        for web in [ring_web(16), cube_web(4), full_web(16), spokes_web(8, 3), (16, ())]:
            self.assertIs(fold_good(web, web, tuple(range(16))), True)
            self.assertIs(fold_good(web, web, tuple(range(15)) + (16,)), False)
        self.assertIs(fold_good(ring_web(16), ring_web(4), (0, 1, 2, 3) * 4), True)
        self.assertIs(fold_good(ring_web(16), ring_web(8), (0, 1, 2, 3) * 4), False)
        self.assertIs(fold_good((16, ()), (1, ()), (0,) * 16), True)
        self.assertIs(fold_good((1, ()), (16, ()), (15,)), True)
        self.assertIs(fold_good(ring_web(15), ring_web(3), (0, 1, 2) * 5), True)

    def test_by_hand(self):
        self.assertIs(fold_good(ring_web(6), ring_web(3), (0, 1, 2, 0, 1, 2)), True)
        self.assertIs(fold_good(ring_web(6), ring_web(3), (0, 2, 1, 0, 2, 1)), True)
        self.assertIs(fold_good(ring_web(6), ring_web(3), (0, 1, 2, 0, 2, 1)), False)
        self.assertIs(fold_good(ring_web(6), ring_web(3), (0, 1, 0, 1, 0, 1)), False)
        # All ties of a place are met, or its images have more than these.
        self.assertIs(fold_good(row_web(2), row_web(3), (0, 1)), False)
        self.assertIs(fold_good(row_web(3), row_web(2), (0, 1, 0)), False)
        self.assertIs(fold_good((1, ()), row_web(2), (0,)), False)
        self.assertIs(fold_good(row_web(2), (1, ()), (0, 0)), False)
        self.assertIs(fold_good(ring_web(3), made(5, [(0, 1), (2, 3), (3, 4), (4, 2)]), (3, 2, 4)), True)

    def test_whatever_is_handed_in(self):
        wrong = [(), (0, 1), (0, 1, 2, 0), [0, 1, 2], (0, 1, [2]), (0, 1, {}), (0, True, 2), (False, 1, 2), (0, 1, None),
                 (0, 1, "2"), (0, 1, 3), (0, -1, 2), "012", {0: 0, 1: 1, 2: 2}, ([], {}, ()), ((0,), 1, 2), (0, 1, 1), 0]
        for thing in NEVER + wrong:
            self.assertIs(fold_good(ring_web(3), ring_web(3), thing), False, thing)
            if thing != ():
                self.assertIs(fold_good((3, ()), (2, ()), thing), False if thing != (0, 1, 1) else True, thing)
        self.assertIs(fold_good((1, ()), (2, ()), (True,)), False)
        self.assertIs(fold_good((1, ()), (2, ()), (1,)), True)


class FirstFold(unittest.TestCase):
    """[9.3]"""

    def test_all_small_webs(self):
        none = 0
        others = list(small_webs(3)) + list(small_webs(4))[11::9]
        for web in small_webs(4):
            for other in others:
                rows = itertools.product(range(other[0]), repeat=web[0])
                due = next((row for row in rows if plain_fold(web, other, row)), None)
                self.assertEqual(first_fold(web, other), due, (web, other))
                none += due is None
        self.assertGreater(none, 100)

    def test_webs_of_up_to_twelve_places(self):
        seen = 0
        for web, other in asked():
            fold = first_fold(web, other)
            self.assertEqual(fold, first_by_rows(web, other), (web, other))
            if fold is not None:
                seen += 1
                self.assertIs(fold_good(web, other, fold), True)
                self.assertIs(plain_fold(web, other, fold), True)
        self.assertGreater(seen, 50)

    def test_several_pieces(self):
        two = made(9, [(0, 4), (4, 8), (8, 0), (1, 2), (2, 3), (3, 5), (5, 6), (6, 7), (7, 1)])
        for web in [two, mixed(two, 1), made(12, list(two[1]) + [(9, 11)]), made(5, [(0, 4)]), (12, ())]:
            for other in [ring_web(3), two, mixed(two, 5), made(16, list(two[1]) + [(10, 12)]), made(5, [(1, 3)]), (16, ())]:
                self.assertEqual(first_fold(web, other), first_by_rows(web, other), (web, other))
        # No piece but one is folded, so there is none.
        self.assertIsNone(first_fold(made(12, [(a, a + 1) for a in range(0, 10, 2)]), turned(16, 8)))
        self.assertIsNone(first_fold(made(12, list(ring_web(11)[1])), turned(11, 3)))

    def test_by_hand(self):
        for web, other, due in [
                ((1, ()), (1, ()), (0,)), ((3, ()), (16, ()), (0, 0, 0)), ((1, ()), row_web(2), None),
                (row_web(2), (1, ()), None), (row_web(2), row_web(2), (0, 1)), (ring_web(6), ring_web(3), (0, 1, 2, 0, 1, 2)),
                (ring_web(3), ring_web(6), None), (ring_web(6), ring_web(4), None), (ring_web(12), ring_web(12), tuple(range(12))),
                (ring_web(12), ring_web(4), (0, 1, 2, 3) * 3), (PETERSEN, PETERSEN, tuple(range(10))),
                (cube_web(3), full_web(4), (0, 1, 2, 3, 3, 2, 1, 0)), (full_web(12), full_web(12), tuple(range(12))),
                (PETERSEN, full_web(4), None), (row_web(12), row_web(12), tuple(range(12))),
                (row_web(12), mixed(row_web(6), 1), None), (full_web(4), made(16, [(12 + a, 12 + b) for a, b in full_web(4)[1]]),
                                                            (12, 13, 14, 15)),
                ((1, ()), made(4, [(0, 1), (1, 3)]), (2,)), (two_sided_web(1, 11), two_sided_web(11, 1), (11,) + tuple(range(11)))]:
            self.assertEqual(first_fold(web, other), due, (web, other))

    def test_an_end_of_a_row_is_not_folded_to_a_place_of_a_ring(self):
        # Wound round the ring no two ties of a place come to one, but the ends lack a tie.
        for many, ring in [(6, 3), (9, 3), (12, 3), (8, 4), (12, 4), (10, 5), (12, 6)]:
            wound = tuple(place % ring for place in range(many))
            self.assertIs(fold_good(row_web(many), ring_web(ring), wound), False)
            self.assertIsNone(first_fold(row_web(many), ring_web(ring)))
            self.assertIsNone(first_fold(mixed(row_web(many), 1), ring_web(ring)))
            self.assertEqual(first_fold(ring_web(many), ring_web(ring)), wound)
        # Places of a ring lack the ties to what hangs on the other one.
        hung = made(4, [(0, 1), (1, 2), (2, 0), (2, 3)])
        for many in (3, 4, 8, 12):
            self.assertIsNone(first_fold(ring_web(many), hung))

    def test_twelve_and_thirteen_places(self):
        for many in range(1, 17):
            due = ("TooGreat", {"many": many, "most": 12}) if many > 12 else None
            for web in [(many, ()), row_web(many), full_web(many)]:
                for other in [web, (1, ()), (16, ()), full_web(16)]:
                    self.assertEqual(fields_of(first_fold, web, other), due, (web, other))
        self.assertEqual(fields_of(first_fold, LINES, LINES), ("TooGreat", {"many": 14, "most": 12}))
        # The second web may be greater.
        self.assertEqual(first_fold(ring_web(3), made(16, [(13, 14), (14, 15), (15, 13)])), (13, 14, 15))

    def test_renamed_webs_fold_to_one_another(self):
        for web, other in TWELVE + [(PETERSEN, LATE), (cube_web(3), row_web(11))]:
            for seed in range(3):
                for each in (web, other):
                    fold = first_fold(each, mixed(each, seed))
                    self.assertEqual(renamed(each, fold), mixed(each, seed))


class Soon(unittest.TestCase):
    """[9.3], not found by going through all tuples"""

    def test_webs_of_twelve_places(self):
        targets = [full_web(6), full_web(4), two_sided_web(3, 3), spokes_web(3, 1), ring_web(6), turned(6, 1, 2)]
        for one, other in TWELVE:
            for seed in range(2):
                for second in [other, one] + [base for base in targets if plain_even(base) == plain_even(one)]:
                    fold = within(SOON, first_fold, mixed(one, seed), mixed(second, seed + 5))
                    self.assertTrue(fold is None or plain_fold(mixed(one, seed), mixed(second, seed + 5), fold))

    def test_many_pieces(self):
        twos = made(12, [(a, a + 1) for a in range(0, 12, 2)])
        some = [twos, (12, ()), made(12, [(a, a + 1) for a in range(0, 10, 2)]), made(12, list(ring_web(11)[1])),
                made(12, [(a, b) for a, b in itertools.combinations(range(12), 2) if a // 3 == b // 3])]
        for web in some + [mixed(web, 1) for web in some]:
            for other in [turned(16, 8), (16, ()), twos, ring_web(3), full_web(16), two_sided_web(1, 1)]:
                within(SOON, first_fold, web, other)

    def test_lifted_webs(self):
        for seed in range(20):
            for base, times in [(full_web(6), 2), (full_web(4), 3), (two_sided_web(3, 3), 2), (ring_web(3), 4)]:
                web = mixed(lifted(base, times, seed), seed)
                fold = within(SOON, first_fold, web, base)
                self.assertIs(plain_fold(web, base, fold), True)

    def test_going_through_all_would_be_told(self):
        def through_all():
            for row in itertools.product(range(12), repeat=12):
                if fold_good(mixed(ring_web(12), 2), ring_web(12), row):
                    return row

        with self.assertRaises(TooLong):
            within(SOON, through_all)


class Over(unittest.TestCase):
    """[9.4]"""

    def test_doubles(self):
        for web in list(small_webs(5))[::3] + [web for web in known_webs() + even_webs() if web[0] <= 8]:
            double = doubled(web)
            many = web[0]
            self.assertIsNotNone(sides_of(double))
            self.assertIs(sides_good(double, sides_of(double)), True)
            ties = [len(near) for near in plain_nears(web)]
            self.assertEqual([len(near) for near in plain_nears(double)], ties + ties)
            self.assertEqual(even_by(double), even_by(web))
            self.assertEqual(doubled_ring(web), shortest(double))
            self.assertIs(fold_good(double, web, tuple(range(many)) * 2), True)

    def test_rings_of_doubles(self):
        for web in known_webs() + even_webs():
            size = doubled_ring(web)
            self.assertEqual(size is None, shortest(web) is None)
            if size is not None:
                self.assertEqual(size % 2, 0)
                self.assertGreaterEqual(size, shortest(web))

    def test_doubles_fold(self):
        for web in list(small_webs(4)) + [ring_web(5), ring_web(6), full_web(6), spokes_web(3, 1), two_sided_web(2, 4)]:
            fold = first_fold(doubled(web), web)
            self.assertIs(fold_good(doubled(web), web, fold), True)
            self.assertLessEqual(fold, tuple(range(web[0])) * 2)

    def test_where_a_web_folds_rings_are_no_longer(self):
        seen = 0
        for web, other in asked():
            if shortest(web) is not None and first_fold(web, other) is not None:
                seen += 1
                self.assertIsNotNone(shortest(other))
                self.assertLessEqual(shortest(other), shortest(web))
        self.assertGreater(seen, 40)

    def test_a_double_is_in_two_pieces_for_each_with_sides(self):
        for web in [web for web in known_webs() + even_webs() if web[0] <= 8]:
            alone = [made(len(piece), [(piece.index(a), piece.index(b)) for a, b in web[1] if a in piece])
                     for piece in plain_pieces(web)]
            due = sum(1 if sides_of(piece) is None else 2 for piece in alone)
            self.assertEqual(len(pieces_of(doubled(web))), due, web)


if __name__ == "__main__":
    unittest.main()
