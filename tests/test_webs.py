"""Stage 1 but for rings: webs, ways, pieces, evenness, renaming."""

import itertools
import unittest

from noshortring.errors import NoPlace
from noshortring.webs import (even_by, far_of, is_even_by, near_of, pieces_of, renamed, shortest, shortest_many,
                              web_good, web_of)
from tests.helper import (NEVER, PETERSEN, SEVERAL, even_webs, fields_of, full_web, known_webs, made, mixed,
                          plain_fars, plain_nears, ring_web, row_web, small_webs)

NO_PLACE = ("NoPlace", {})
NO_NUMBER = ("NoNumber", {})


class WebGood(unittest.TestCase):
    """[1.1]"""

    def test_webs_of_all_sizes(self):
        for web in known_webs() + even_webs():
            self.assertIs(web_good(web), True, web)

    def test_one_place_and_sixteen(self):
        for many in range(-2, 20):
            self.assertIs(web_good((many, ())), 1 <= many <= 16, many)

    def test_all_ties_of_sixteen_places(self):
        self.assertIs(web_good(full_web(16)), True)

    def test_whatever_is_handed_in(self):
        for thing in NEVER:
            self.assertIs(web_good(thing), False, thing)
            self.assertIs(web_good((thing, ())), False, thing)
            self.assertIs(web_good((3, thing)), False, thing)
            self.assertIs(web_good((3, (thing,))), False, thing)
            self.assertIs(web_good((3, ((0, 1), thing))), False, thing)
            self.assertIs(web_good((3, ((0, thing),))), False, thing)
            self.assertIs(web_good((3, ((thing, 2),))), False, thing)

    def test_the_form_of_the_tuple(self):
        for thing in [(), (3,), 3, (3, (), ()), [3, ()], ((), 3), (3, [(0, 1)]), (3, {(0, 1): 0}), (3, (0, 1))]:
            self.assertIs(web_good(thing), False, thing)

    def test_truths_are_no_numbers(self):
        for thing in [(True, ()), (2, ((0, True),)), (2, ((False, 1),)), (3, ((True, 2),))]:
            self.assertIs(web_good(thing), False, thing)

    def test_the_form_of_ties(self):
        for tie in [(), (0,), (0, 1, 2), [0, 1], (1, 0), (1, 1), (0, 3), (-1, 0), (0, [1]), ({}, 1), "01"]:
            self.assertIs(web_good((3, (tie,))), False, tie)

    def test_ties_rise(self):
        self.assertIs(web_good((3, ((0, 1), (0, 2), (1, 2)))), True)
        for ties in [((0, 1), (0, 1)), ((0, 2), (0, 1)), ((1, 2), (0, 1)), ((0, 1), (1, 2), (0, 2))]:
            self.assertIs(web_good((3, ties)), False, ties)

    def test_ties_only_between_places_that_are_there(self):
        for many in range(1, 17):
            self.assertIs(web_good((many, ((0, many),))), False, many)
            self.assertIs(web_good((many, ((0, many - 1),))), many > 1, many)


class WebOf(unittest.TestCase):
    """[1.2]"""

    def test_any_order_either_end_ahead_and_twice(self):
        things = [(3, 1), (0, 2), (1, 3), (2, 0), (1, 0), (1, 3)]
        self.assertEqual(web_of(4, things), (4, ((0, 1), (0, 2), (1, 3))))

    def test_no_ties(self):
        for many in range(1, 17):
            self.assertEqual(web_of(many, []), (many, ()))

    def test_webs_of_all_sizes_come_out(self):
        for web in known_webs():
            pairs = list(web[1])
            turned = [(b, a) for a, b in reversed(pairs)]
            for things in (pairs, turned, pairs + turned):
                answer = web_of(web[0], things)
                self.assertEqual(answer, web)
                self.assertIs(web_good(answer), True)

    def test_all_ties_of_sixteen_places(self):
        self.assertEqual(web_of(16, list(itertools.permutations(range(16), 2))), full_web(16))

    def test_many_is_refused_ahead_of_the_list(self):
        for many in NEVER + [0, 17, (3, ()), (1,), [1]]:
            for things in ([], [(0, 1)], [None], [(0, 0), {}]):
                self.assertEqual(fields_of(web_of, many, things), ("NoWeb", {"number": -1}), many)

    def test_the_first_wrong_thing_is_told(self):
        for thing in NEVER + [(), (0,), (0, 1, 2), [0, 1], (1, 1), (0, 4), (-1, 0), (0, None), ((0, 1), 2), 0, 1]:
            for ahead in range(4):
                things = [(1, 0), (2, 3), (0, 1)][:ahead] + [thing, (0, 2), None, (0, 9)]
                self.assertEqual(fields_of(web_of, 4, things), ("NoWeb", {"number": ahead}), thing)

    def test_one_place_has_no_pair(self):
        self.assertEqual(fields_of(web_of, 1, [(0, 0)]), ("NoWeb", {"number": 0}))
        self.assertEqual(fields_of(web_of, 1, [(0, 1)]), ("NoWeb", {"number": 0}))


class Ways(unittest.TestCase):
    """[1.3]"""

    def test_near_and_far_as_by_going_through_all(self):
        for web in known_webs():
            nears = plain_nears(web)
            fars = plain_fars(web)
            for one in range(web[0]):
                self.assertEqual(near_of(web, one), nears[one], web)
                for other in range(web[0]):
                    self.assertEqual(far_of(web, one, other), fars[one][other], (web, one, other))

    def test_by_hand(self):
        self.assertEqual(near_of(SEVERAL, 0), (5, 9))
        self.assertEqual(near_of(SEVERAL, 12), ())
        self.assertEqual(far_of(SEVERAL, 12, 12), 0)
        self.assertIsNone(far_of(SEVERAL, 12, 13))
        self.assertIsNone(far_of(SEVERAL, 0, 1))
        self.assertEqual(far_of(row_web(16), 15, 0), 15)
        self.assertEqual(far_of(ring_web(16), 3, 11), 8)

    def test_no_place(self):
        for web in [(1, ()), PETERSEN, (16, ())]:
            for thing in NEVER + [web[0], (0,), (0, 1), [0]]:
                self.assertEqual(fields_of(near_of, web, thing), NO_PLACE, thing)
                self.assertEqual(fields_of(far_of, web, thing, 0), NO_PLACE, thing)
                self.assertEqual(fields_of(far_of, web, 0, thing), NO_PLACE, thing)
                self.assertEqual(fields_of(far_of, web, thing, thing), NO_PLACE, thing)

    def test_pieces(self):
        self.assertEqual(pieces_of((1, ())), [(0,)])
        self.assertEqual(pieces_of((16, ())), [(place,) for place in range(16)])
        self.assertEqual(pieces_of(ring_web(16)), [tuple(range(16))])
        self.assertEqual(pieces_of(SEVERAL),
                         [(0, 5, 9), (1, 2, 3, 14), (4, 6, 7, 8, 10), (11, 15), (12,), (13,)])

    def test_pieces_are_where_there_are_ways(self):
        for web in known_webs():
            pieces = pieces_of(web)
            self.assertIsInstance(pieces, list)
            self.assertEqual([piece[0] for piece in pieces], sorted(piece[0] for piece in pieces))
            fars = plain_fars(web)
            for place in range(web[0]):
                due = tuple(other for other in range(web[0]) if fars[place][other] is not None)
                self.assertEqual([piece for piece in pieces if place in piece], [due], web)


class Evenness(unittest.TestCase):
    """[1.3]"""

    def test_as_counted(self):
        for web in known_webs() + even_webs():
            counts = {len(near) for near in plain_nears(web)}
            due = counts.pop() if len(counts) == 1 else None
            self.assertEqual(even_by(web), due, web)
            for number in range(16):
                self.assertIs(is_even_by(web, number), due == number, (web, number))

    def test_by_hand(self):
        self.assertEqual(even_by((1, ())), 0)
        self.assertEqual(even_by((16, ())), 0)
        self.assertEqual(even_by(full_web(16)), 15)
        self.assertEqual(even_by(PETERSEN), 3)
        self.assertIsNone(even_by(row_web(3)))
        self.assertIsNone(even_by(made(3, [(0, 1)])))
        self.assertIs(is_even_by(full_web(16), 15), True)
        self.assertIs(is_even_by((1, ()), 0), True)

    def test_no_number(self):
        for thing in NEVER + [16, (3,), [3]]:
            for web in (PETERSEN, (1, ()), row_web(3)):
                self.assertEqual(fields_of(is_even_by, web, thing), NO_NUMBER, thing)


class Renamed(unittest.TestCase):
    """[1.5]"""

    def test_each_place_has_the_number_at_its_place(self):
        self.assertEqual(renamed((4, ((0, 1), (1, 2))), (3, 0, 1, 2)), (4, ((0, 1), (0, 3))))
        self.assertEqual(renamed((1, ()), (0,)), (1, ()))

    def test_all_orders_of_small_webs(self):
        for web in small_webs(4):
            for names in itertools.permutations(range(web[0])):
                due = made(web[0], [(names[a], names[b]) for a, b in web[1]])
                self.assertEqual(renamed(web, names), due, (web, names))

    def test_as_many_rings_as_long(self):
        for web in known_webs() + even_webs():
            names = tuple((5 * place + 3) % 17 for place in range(16))
            order = sorted(range(web[0]), key=lambda place: names[place])
            other = renamed(web, tuple(order))
            self.assertIs(web_good(other), True)
            self.assertEqual(shortest(other), shortest(web), web)
            self.assertEqual(shortest_many(other), shortest_many(web), web)

    def test_turned_back(self):
        for web in known_webs():
            names = tuple(reversed(range(web[0])))
            self.assertEqual(renamed(renamed(web, names), names), web)
            self.assertEqual(renamed(mixed(web, 1), tuple(range(web[0]))), mixed(web, 1))

    def test_no_place(self):
        wrong = [(), (0,), (0, 1), (0, 1, 2, 3), (0, 1, 1), (1, 2, 3), (0, 1, -1), [0, 1, 2], {0: 0, 1: 1, 2: 2},
                 (0, True, 2), (False, 1, 2), (0, 1, [2]), (0, 1, {}), (0, 1, None), (0, 1, "2"), (0, 1, (2,)),
                 ([], {}, ()), "012", 0, 3, (0, 1, 2, 2)]
        for names in NEVER + wrong:
            self.assertEqual(fields_of(renamed, ring_web(3), names), NO_PLACE, names)
            self.assertEqual(fields_of(renamed, (3, ()), names), NO_PLACE, names)
        with self.assertRaises(NoPlace):
            renamed((1, ()), (False,))


if __name__ == "__main__":
    unittest.main()
