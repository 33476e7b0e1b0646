"""Stage 5: webs by turns."""

import itertools
import unittest

from noshortring.turning import (by_turns, least_by_turns, steps_good, steps_of, turned_ring, turned_ties, turned_web)
from noshortring.webs import even_by, renamed, shortest, web_good
from tests.helper import (LINES, NEVER, PETERSEN, SEVERAL, cube_web, fields_of, full_web, known_webs, made, mixed,
                          plain_even, plain_ring, ring_web, row_web, small_webs, spokes_web, two_sided_web, within)

NO_NUMBER = ("NoNumber", {})
NO_LINE = ("NoLine", {})
ALL_MANY = range(3, 17)
WRONG_MANY = NEVER + [0, 1, 2, 17, (3,), [3], (3, ())]
WRONG_D = NEVER + [0, 1, 16, (3,), [3]]
WRONG_G = NEVER + [0, 1, 2, 17, (3,), [3]]
# Rows of the program that a question may take.
SOON = 2000000


def plain_steps(many):
    """All steps of so many places, rising."""
    sizes = range(many // 2 + 1)
    return sorted(steps for size in sizes for steps in itertools.combinations(range(1, many // 2 + 1), size))


def plain_turned(many, steps):
    pairs = itertools.combinations(range(many), 2)
    return made(many, [(a, b) for a, b in pairs if b - a in steps or many - (b - a) in steps])


def told_of_all():
    """For each number of places, the list of all steps with their ties at each place and their shortest ring."""
    told = {}
    for many in ALL_MANY:
        webs = [(steps, plain_turned(many, steps)) for steps in plain_steps(many)]
        told[many] = [(steps, plain_even(web), plain_ring(web)) for steps, web in webs]
    return told


class Steps(unittest.TestCase):
    """[5.1]"""

    def test_all_short_rows(self):
        for many in (3, 4, 5, 8, 16):
            for size in range(4):
                for row in itertools.product(range(-1, 10), repeat=size):
                    due = all(1 <= step <= many // 2 for step in row) and list(row) == sorted(set(row))
                    self.assertIs(steps_good(many, row), due, (many, row))

    def test_all_steps(self):
        for many in ALL_MANY:
            for steps in plain_steps(many):
                self.assertIs(steps_good(many, steps), True)
                self.assertIs(steps_good(many, list(steps)), False)

    def test_no_steps_at_all(self):
        for many in ALL_MANY:
            self.assertIs(steps_good(many, ()), True)
            self.assertEqual(turned_web(many, ()), (many, ()))
            self.assertEqual(turned_ties(many, ()), 0)
            self.assertIsNone(turned_ring(many, ()))

    def test_whatever_is_handed_in(self):
        wrong = [[], [1], [1, 2], (True,), (1, True), (1, 2, True), (1, [2]), (1, {}), ([1],), ({},), (None,), ("1",), "12",
                 {1: 2}, 1, 2, (0,), (0, 1), (-1,), (9,), (1, 9), (2, 1), (1, 1), ((1,),), ((1, 2), 3), (1, None)]
        for many in (3, 8, 16):
            for thing in NEVER + wrong:
                self.assertIs(steps_good(many, thing), False, thing)
                for call in (turned_web, turned_ties, turned_ring):
                    self.assertEqual(fields_of(call, many, thing), NO_LINE, thing)

    def test_half_of_the_places(self):
        for many in ALL_MANY:
            self.assertIs(steps_good(many, (many // 2,)), True)
            for call in (turned_web, turned_ties, turned_ring):
                self.assertEqual(fields_of(call, many, (many // 2 + 1,)), NO_LINE)

    def test_no_number_ahead_of_no_line(self):
        for many in WRONG_MANY:
            for thing in NEVER + [(), (1,), (1, 2), many]:
                for call in (steps_good, turned_web, turned_ties, turned_ring):
                    self.assertEqual(fields_of(call, many, thing), NO_NUMBER, many)


class Turned(unittest.TestCase):
    """[5.2]"""

    def test_all(self):
        for many in ALL_MANY:
            for steps in plain_steps(many):
                web = turned_web(many, steps)
                self.assertEqual(web, plain_turned(many, steps))
                self.assertIs(web_good(web), True)
                self.assertEqual(turned_ties(many, steps), plain_even(web))
                self.assertEqual(turned_ring(many, steps), plain_ring(web))

    def test_by_hand(self):
        for many, steps, web, ties, ring in [
                (3, (1,), full_web(3), 2, 3), (4, (2,), made(4, [(0, 2), (1, 3)]), 1, None),
                (4, (1, 2), full_web(4), 3, 3), (6, (1, 3), two_sided_web_mixed(3), 3, 4),
                (16, (1,), ring_web(16), 2, 16), (16, (8,), made(16, [(a, a + 8) for a in range(8)]), 1, None),
                (16, (1, 2, 3, 4, 5, 6, 7, 8), full_web(16), 15, 3), (9, (3,), made(9, thirds()), 2, 3),
                (16, (5,), made(16, [(a, (a + 5) % 16) for a in range(16)]), 2, 16)]:
            self.assertEqual(turned_web(many, steps), web)
            self.assertEqual(turned_ties(many, steps), ties)
            self.assertEqual(turned_ring(many, steps), ring)


def two_sided_web_mixed(half):
    """The places of either sort in turn, each tied to all of the other sort."""
    many = 2 * half
    return made(many, [(a, b) for a in range(0, many, 2) for b in range(1, many, 2)])


def thirds():
    return [(a, b) for a, b in itertools.combinations(range(9), 2) if (b - a) % 3 == 0]


class StepsOf(unittest.TestCase):
    """[5.3]"""

    def test_there_and_back(self):
        for many in ALL_MANY:
            for steps in plain_steps(many):
                self.assertEqual(steps_of(plain_turned(many, steps)), steps)

    def test_none_where_there_are_none(self):
        turned = {plain_turned(many, steps): steps for many in ALL_MANY for steps in plain_steps(many)}
        others = known_webs() + [mixed(web, 8) for web in turned if web[0] > 12] + [PETERSEN, LINES, cube_web(3)]
        for web in list(small_webs(5)) + others:
            if web[0] >= 3:
                self.assertEqual(steps_of(web), turned.get(web), web)

    def test_by_hand(self):
        self.assertEqual(steps_of((3, ())), ())
        self.assertEqual(steps_of((16, ())), ())
        self.assertEqual(steps_of(full_web(16)), (1, 2, 3, 4, 5, 6, 7, 8))
        self.assertEqual(steps_of(ring_web(3)), (1,))
        for web in [PETERSEN, row_web(3), SEVERAL, two_sided_web(3, 3), spokes_web(4, 1), made(3, [(1, 2)])]:
            self.assertIsNone(steps_of(web), web)

    def test_fewer_than_three_places(self):
        for web in [(1, ()), (2, ()), (2, ((0, 1),))]:
            self.assertEqual(fields_of(steps_of, web), NO_NUMBER)
        for thing in NEVER:
            self.assertEqual(fields_of(steps_of, thing), NO_NUMBER, thing)


class ByTurns(unittest.TestCase):
    """[5.4]"""

    def test_all(self):
        told = told_of_all()
        for d, g in itertools.product(range(2, 16), range(3, 17)):
            least = None
            for many in ALL_MANY:
                due = [steps for steps, even, ring in told[many] if even == d and (ring is None or ring >= g)]
                self.assertEqual(by_turns(many, d, g), due, (many, d, g))
                if due and least is None:
                    least = (many, due[0])
            self.assertEqual(least_by_turns(d, g), least, (d, g))

    def test_by_hand(self):
        self.assertEqual(by_turns(3, 2, 3), [(1,)])
        self.assertEqual(by_turns(3, 2, 4), [])
        self.assertEqual(by_turns(16, 2, 16), [(1,), (3,), (5,), (7,)])
        self.assertEqual(by_turns(16, 15, 3), [(1, 2, 3, 4, 5, 6, 7, 8)])
        self.assertEqual(by_turns(16, 3, 5), [])
        self.assertEqual(by_turns(8, 3, 4), [(1, 4), (3, 4)])
        self.assertEqual(by_turns(15, 3, 3), [])
        self.assertEqual(least_by_turns(2, 3), (3, (1,)))
        self.assertEqual(least_by_turns(2, 16), (16, (1,)))
        self.assertEqual(least_by_turns(3, 4), (6, (1, 3)))
        self.assertEqual(least_by_turns(15, 3), (16, (1, 2, 3, 4, 5, 6, 7, 8)))
        self.assertEqual(least_by_turns(8, 4), (16, (1, 3, 5, 7)))
        self.assertIsNone(least_by_turns(3, 5))
        self.assertIsNone(least_by_turns(15, 16))
        self.assertIsNone(least_by_turns(9, 4))

    def test_no_number(self):
        for call in (by_turns, lambda many, d, g: least_by_turns(d, g)):
            for thing in WRONG_D:
                self.assertEqual(fields_of(call, 8, thing, 4), NO_NUMBER, thing)
            for thing in WRONG_G:
                self.assertEqual(fields_of(call, 8, 3, thing), NO_NUMBER, thing)
                self.assertEqual(fields_of(call, thing, thing, thing), NO_NUMBER, thing)
        for thing in WRONG_MANY:
            self.assertEqual(fields_of(by_turns, thing, 3, 4), NO_NUMBER, thing)

    def test_soon(self):
        for d in range(2, 16):
            for g in (3, 4, 5, 16):
                within(SOON, least_by_turns, d, g)
                within(SOON, by_turns, 16, d, g)


class Over(unittest.TestCase):
    """[5.5]"""

    def test_of_two_steps_or_more(self):
        for many in ALL_MANY:
            for steps in plain_steps(many):
                if len(steps) >= 2:
                    self.assertLessEqual(turned_ring(many, steps), 4)

    def test_step_one_alone_is_the_ring(self):
        for many in ALL_MANY:
            self.assertEqual(turned_web(many, (1,)), ring_web(many))
            self.assertEqual(turned_ring(many, (1,)), many)

    def test_turned_on_by_one_place(self):
        for many in ALL_MANY:
            on = tuple((place + 1) % many for place in range(many))
            for steps in plain_steps(many):
                web = turned_web(many, steps)
                self.assertEqual(renamed(web, on), web)

    def test_told_numbers_are_those_of_the_web(self):
        for many in ALL_MANY:
            for steps in plain_steps(many)[::3]:
                web = turned_web(many, steps)
                self.assertEqual(turned_ties(many, steps), even_by(web))
                self.assertEqual(turned_ring(many, steps), shortest(web))


if __name__ == "__main__":
    unittest.main()
