"""[0.2]: nothing handed in is changed, what is told is new, the same question has the same answer."""

import copy
import unittest

from noshortring.fewest import fits, least_by_growth, least_fit, surplus, tight, tight_by
from noshortring.growth import full_at, full_by, layers_by_tie, layers_of, longest_fit, ring_at, ring_by
from noshortring.webs import (even_by, far_of, first_ring, is_even_by, near_of, pieces_of, renamed, ring_good,
                              shortest, shortest_many, web_good, web_of)
from tests.helper import NEVER, PETERSEN, SEVERAL, full_web, row_web

PLAIN = [(), (3, ()), (2, [(0, 1)]), (4, ((0, [1]), {})), [(3, 1), (1, 3), (0, 2)], [(0, 1), [1, 2], {}]]
WEBS = [PETERSEN, SEVERAL, full_web(16), row_web(16), (1, ()), (16, ())]


def questions():
    """Tuples of a call and what is handed in to it."""
    asked = [(web_good, thing) for thing in NEVER + PLAIN]
    asked += [(web_of, many, things) for many in (1, 4, 16, True, [4]) for things in PLAIN if isinstance(things, list)]
    asked += [(longest_fit, 3, 10), (longest_fit, 3, [10]), (least_by_growth, 3, 5), (least_fit, {}, 5)]
    for web in WEBS:
        asked += [(call, web) for call in (web_good, pieces_of, even_by, shortest, first_ring, shortest_many, tight,
                                           tight_by)]
        for thing in NEVER + [0, web[0] - 1, tuple(range(web[0])), list(range(web[0]))]:
            asked += [(call, web, thing) for call in (near_of, is_even_by, ring_good, renamed, layers_of, ring_at,
                                                      full_at)]
            asked += [(call, web, 0, thing) for call in (far_of, layers_by_tie, ring_by, full_by, fits, surplus)]
        asked += [(call, web, a, b) for call in (layers_by_tie, ring_by, full_by) for a, b in web[1][:4]]
        asked += [(call, web, d, g) for call in (fits, surplus) for d in (2, 3, 15) for g in (3, 5, 16)]
    return asked


def answer_of(question):
    """What is told, or the refusal, as something to compare."""
    try:
        return ("told", question[0](*question[1:]))
    except ValueError as refusal:
        return ("refused", type(refusal).__name__, vars(refusal))


class Keeping(unittest.TestCase):
    def test_nothing_handed_in_is_changed(self):
        for question in questions():
            before = copy.deepcopy(question[1:])
            answer_of(question)
            self.assertEqual(repr(question[1:]), repr(before))

    def test_the_same_answer_whatever_was_asked_in_between(self):
        asked = questions()
        first = [copy.deepcopy(answer_of(question)) for question in asked]
        for question, answer in reversed(list(zip(asked, first))):
            self.assertEqual(repr(answer_of(question)), repr(answer))

    def test_told_lists_are_the_askers_own(self):
        for call, things in [(pieces_of, (SEVERAL,)), (layers_of, (PETERSEN, 0)), (layers_by_tie, (PETERSEN, 0, 1))]:
            told = call(*things)
            self.assertIsInstance(told, list)
            kept = list(told)
            told.append("more")
            told[0] = None
            again = call(*things)
            self.assertEqual(again, kept)
            again.clear()
            self.assertEqual(call(*things), kept)
            self.assertTrue(all(type(row) is tuple for row in kept))

    def test_a_web_stays_when_its_list_is_changed(self):
        things = [(1, 0), (1, 2)]
        web = web_of(3, things)
        things[0] = (0, 2)
        things.append(None)
        self.assertEqual(web, (3, ((0, 1), (1, 2))))
        self.assertEqual(web_of(3, [(1, 0), (1, 2)]), web)

    def test_the_kinds_that_are_told(self):
        for web in WEBS:
            made = web_of(web[0], list(web[1]))
            turned = renamed(web, tuple(reversed(range(web[0]))))
            for each in (made, turned):
                self.assertIs(type(each), tuple)
                self.assertIs(type(each[1]), tuple)
                self.assertTrue(all(type(tie) is tuple for tie in each[1]))
            self.assertIs(type(near_of(web, 0)), tuple)
            for number in (even_by(web), shortest(web), ring_at(web, 0), far_of(web, 0, web[0] - 1)):
                self.assertIn(type(number), (int, type(None)))

    def test_what_was_told_is_handed_in_again(self):
        web = renamed(web_of(10, list(PETERSEN[1])), (9, 8, 7, 6, 5, 4, 3, 2, 1, 0))
        self.assertIs(ring_good(web, first_ring(web)), True)
        self.assertIs(fits(web, *tight_by(web)), True)
        self.assertEqual(layers_of(web, near_of(web, 0)[0])[1], near_of(web, near_of(web, 0)[0]))


if __name__ == "__main__":
    unittest.main()
