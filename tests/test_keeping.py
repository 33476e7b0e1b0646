"""[0.2]: nothing handed in is changed, what is told is new, the same question has the same answer."""

import copy
import unittest

from noshortring.allsmall import (all_fit, all_fit_many, fewest_places, first_fit, kinds_fit, kinds_many, least_form,
                                  own_many)
from noshortring.betterings import (better_crossing, climbed, crossed, crossings_of, is_better, spliced, unspliced)
from noshortring.desk import Desk
from noshortring.doubling import doubled, doubled_ring, first_fold, fold_good, sides_good, sides_of
from noshortring.fewest import fits, least_by_growth, least_fit, surplus, tight, tight_by
from noshortring.growth import full_at, full_by, layers_by_tie, layers_of, longest_fit, ring_at, ring_by
from noshortring.kinds import kind_counts, kind_even, kind_good, kind_of, kind_ring, kinds_fit_by, web_by
from noshortring.papers import completed, completions_many, is_completion, lacks, may_tie, paper_for, paper_good
from noshortring.texts import web_read, web_shown
from noshortring.turning import by_turns, least_by_turns, steps_good, steps_of, turned_ring, turned_ties, turned_web
from noshortring.webs import (even_by, far_of, first_ring, is_even_by, near_of, pieces_of, renamed, ring_good,
                              shortest, shortest_many, web_good, web_of)
from tests.helper import LATE, NEVER, PETERSEN, SEVERAL, cube_web, full_web, ring_web, row_web

PLAIN = [(), (3, ()), (2, [(0, 1)]), (4, ((0, [1]), {})), [(3, 1), (1, 3), (0, 2)], [(0, 1), [1, 2], {}]]
WEBS = [PETERSEN, SEVERAL, full_web(16), row_web(16), (1, ()), (16, ())]


def questions():
    """Tuples of a call and what is handed in to it."""
    asked = [(web_good, thing) for thing in NEVER + PLAIN]
    asked += [(web_of, many, things) for many in (1, 4, 16, True, [4]) for things in PLAIN if isinstance(things, list)]
    asked += [(longest_fit, 3, 10), (longest_fit, 3, [10]), (least_by_growth, 3, 5), (least_fit, {}, 5)]
    for web in WEBS:
        asked += [(call, web) for call in (web_good, pieces_of, even_by, shortest, first_ring, shortest_many, tight,
                                           tight_by)]
        for thing in NEVER + [0, web[0] - 1, tuple(range(web[0])), list(range(web[0]))]:
            asked += [(call, web, thing) for call in (near_of, is_even_by, ring_good, renamed, layers_of, ring_at,
                                                      full_at)]
            asked += [(call, web, 0, thing) for call in (far_of, layers_by_tie, ring_by, full_by, fits, surplus)]
        asked += [(call, web, a, b) for call in (layers_by_tie, ring_by, full_by) for a, b in web[1][:4]]
        asked += [(call, web, d, g) for call in (fits, surplus) for d in (2, 3, 15) for g in (3, 5, 16)]
    asked += paper_questions() + kind_questions() + small_questions()
    return asked + better_questions() + fold_questions() + text_questions()


def paper_questions():
    asked = []
    papers = [("cases", 0, [(1, ("lack", 2)), (2, ("lack", 1))]), ("cases", 0, [(1, ("lack", [2])), [2, ("lack", 1)]]),
              ("over", 0), ("ring", [0, 1, 2]), ("cases", 0, [(1, ("cases", 2, [])), (2, ("cases", 1, []))])]
    for web in WEBS + [(3, ()), (5, ()), (6, ()), row_web(3), full_web(4)]:
        for d, g in [(0, 3), (1, 3), (2, 4), (3, 5), (15, 16), ([1], {}), (True, 3)]:
            asked += [(lacks, web, d)] + [(call, web, d, g) for call in (completed, paper_for, completions_many)]
            asked += [(may_tie, web, d, g, a, b) for a, b in [(0, 0), (0, web[0] - 1), ([0], 0), (0, {})]]
            asked += [(call, web, d, g, thing) for call in (is_completion, paper_good) for thing in papers + [web, [web]]]
    return asked + [(call, (3, ()), 1, 3, thing) for call in (is_completion, paper_good) for thing in NEVER]


def kind_questions():
    asked = []
    for thing in NEVER + [("cube", 3), ("two", 2, 3), ("ring", [3]), ("spokes", 5, 2), ([], {}), ("full", 16)]:
        asked += [(call, thing) for call in (kind_good, web_by, kind_counts, kind_even, kind_ring)]
    for thing in NEVER + [(), (1,), (1, 4), (1, 2, 3), [1, 2], (1, [2])]:
        asked += [(call, 8, thing) for call in (steps_good, turned_web, turned_ties, turned_ring)]
    for d, g in [(0, 3), (2, 3), (2, 16), (3, 4), (3, 6), (4, 4), (15, 3), ([2], 3), (2, {})]:
        asked += [(kinds_fit_by, d, g), (least_by_turns, d, g), (by_turns, 16, d, g), (by_turns, 6, d, g)]
    return asked + [(call, web) for call in (steps_of, kind_of) for web in WEBS]


def small_questions():
    asked = []
    for d, g in [(0, 3), (2, 3), (2, 5), (3, 3), (3, 4), (6, 3), ([2], 3), (2, {}), (True, 3)]:
        asked += [(fewest_places, d, g)]
        asked += [(call, many, d, g) for call in (all_fit_many, first_fit, all_fit, kinds_fit, kinds_many)
                  for many in (1, 4, 6, [7], None)]
    return asked + [(call, web) for call in (least_form, own_many) for web in WEBS + [row_web(6), full_web(5)]]


def better_questions():
    asked = []
    webs = WEBS + [LATE, cube_web(3), ring_web(4), row_web(8)]
    for web in webs:
        asked += [(call, web) for call in (crossings_of, better_crossing, climbed)]
        asked += [(is_better, web, other) for other in webs + [[web], None]]
        for thing in NEVER + [0, 1, 2]:
            asked += [(call, web, 0, 1, thing, 3) for call in (crossed, spliced)]
            asked += [(unspliced, web, 0, thing)]
    return asked


def fold_questions():
    asked = []
    webs = [PETERSEN, SEVERAL, LATE, cube_web(3), ring_web(12), ring_web(3), (1, ()), (12, ()), full_web(16)]
    for web in webs:
        asked += [(call, web) for call in (sides_of, doubled, doubled_ring)]
        asked += [(first_fold, web, other) for other in webs]
        for thing in NEVER + [(0,) * web[0], (0, 1) * (web[0] // 2), [0] * web[0], tuple(range(web[0]))]:
            asked += [(sides_good, web, thing), (fold_good, web, ring_web(3), thing), (fold_good, web, web, thing)]
    return asked


def fresh_say(*rows):
    """The answer of a new desk to the last row."""
    desk = Desk()
    for row in rows[:-1]:
        desk.say(row)
    return desk.say(rows[-1])


def text_questions():
    asked = [(web_shown, web) for web in WEBS]
    asked += [(web_read, thing) for thing in NEVER + ["web 3 1\ntie 0 2", "web 3 1\ntie 2 0", "web 3 1", "web 1 0\n"]]
    asked += [(fresh_say, thing) for thing in NEVER + ["back", "fresh 0", "near 1", "kind cube 9", "lacks 16", "shown"]]
    asked += [(fresh_say, "kind spokes 5 2", row) for row in ["ties", "near 0", "first", "pieces", "layers 0", "fits 3 5", "back"]]
    return asked + [(fresh_say, "kind cube 3", "cross 0 1 6 7", row) for row in ["back", "ties", "ring", ["ties"]]]


def spoilt(told):
    """Changes a told thing, and all lists within it, as an asker may do with what is his own."""
    things = list(told) if isinstance(told, (list, tuple)) else []
    for thing in things:
        spoilt(thing)
    if isinstance(told, list):
        told.append("more")
        told[0] = None


def answer_of(question):
    """What is told, or the refusal, as something to compare."""
    try:
        return ("told", question[0](*question[1:]))
    except ValueError as refusal:
        return ("refused", type(refusal).__name__, vars(refusal))


class Keeping(unittest.TestCase):
    def test_nothing_handed_in_is_changed(self):
        for question in questions():
            before = copy.deepcopy(question[1:])
            answer_of(question)
            self.assertEqual(repr(question[1:]), repr(before))

    def test_the_same_answer_whatever_was_asked_in_between(self):
        asked = questions()
        first = [copy.deepcopy(answer_of(question)) for question in asked]
        for question, answer in reversed(list(zip(asked, first))):
            self.assertEqual(repr(answer_of(question)), repr(answer))

    def test_told_lists_are_the_askers_own(self):
        for call, things in [(pieces_of, (SEVERAL,)), (layers_of, (PETERSEN, 0)), (layers_by_tie, (PETERSEN, 0, 1))]:
            told = call(*things)
            self.assertIsInstance(told, list)
            kept = list(told)
            told.append("more")
            told[0] = None
            again = call(*things)
            self.assertEqual(again, kept)
            again.clear()
            self.assertEqual(call(*things), kept)
            self.assertTrue(all(type(row) is tuple for row in kept))

    def test_lists_within_are_the_askers_own(self):
        asked = [(paper_for, (3, ()), 1, 3), (paper_for, (5, ()), 1, 16), (by_turns, 16, 2, 3), (by_turns, 3, 2, 4),
                 (kinds_fit_by, 3, 5), (kinds_fit_by, 15, 4), (all_fit, 6, 2, 3), (all_fit, 7, 3, 3), (kinds_fit, 7, 2, 3),
                 (kinds_fit, 1, 1, 3), (crossings_of, cube_web(3)), (crossings_of, full_web(4)), (climbed, LATE),
                 (climbed, full_web(8))]
        for question in asked:
            told = answer_of(question)
            kept = copy.deepcopy(told)
            spoilt(told[1])
            self.assertNotEqual(told, kept)
            self.assertEqual(answer_of(question), kept)

    def test_a_paper_is_not_kept_by_those_who_look_at_it(self):
        paper = paper_for((5, ()), 1, 3)
        before = copy.deepcopy(paper)
        self.assertIs(paper_good((5, ()), 1, 3, paper), True)
        self.assertEqual(paper, before)
        spoilt(paper)
        self.assertIs(paper_good((5, ()), 1, 3, paper), False)
        self.assertIs(paper_good((5, ()), 1, 3, before), True)

    def test_a_web_stays_when_its_list_is_changed(self):
        things = [(1, 0), (1, 2)]
        web = web_of(3, things)
        things[0] = (0, 2)
        things.append(None)
        self.assertEqual(web, (3, ((0, 1), (1, 2))))
        self.assertEqual(web_of(3, [(1, 0), (1, 2)]), web)

    def test_the_kinds_that_are_told(self):
        for web in WEBS:
            made = web_of(web[0], list(web[1]))
            turned = renamed(web, tuple(reversed(range(web[0]))))
            for each in (made, turned):
                self.assertIs(type(each), tuple)
                self.assertIs(type(each[1]), tuple)
                self.assertTrue(all(type(tie) is tuple for tie in each[1]))
            self.assertIs(type(near_of(web, 0)), tuple)
            for number in (even_by(web), shortest(web), ring_at(web, 0), far_of(web, 0, web[0] - 1)):
                self.assertIn(type(number), (int, type(None)))

    def test_what_was_told_is_handed_in_again(self):
        web = renamed(web_of(10, list(PETERSEN[1])), (9, 8, 7, 6, 5, 4, 3, 2, 1, 0))
        self.assertIs(ring_good(web, first_ring(web)), True)
        self.assertIs(fits(web, *tight_by(web)), True)
        self.assertEqual(layers_of(web, near_of(web, 0)[0])[1], near_of(web, near_of(web, 0)[0]))
        self.assertIs(paper_good((5, ()), 1, 3, paper_for((5, ()), 1, 3)), True)
        self.assertIs(is_completion((6, ()), 1, 3, completed((6, ()), 1, 3)), True)
        many, steps = least_by_turns(3, 4)
        self.assertEqual(steps_of(turned_web(many, steps)), steps)
        self.assertEqual([kind_of(web_by(kind)) for kind in kinds_fit_by(3, 6)], kinds_fit_by(3, 6))
        self.assertEqual([least_form(each) for each in kinds_fit(7, 4, 3)], kinds_fit(7, 4, 3))
        self.assertEqual(web_read(web_shown(web)), web)
        self.assertIs(sides_good(doubled(LATE), sides_of(doubled(LATE))), True)
        self.assertIs(fold_good(doubled(ring_web(5)), ring_web(5), first_fold(doubled(ring_web(5)), ring_web(5))), True)
        self.assertIsNone(better_crossing(climbed(LATE)[-1]))
        for a, b, c, e in crossings_of(cube_web(3)):
            self.assertEqual(crossed(crossed(cube_web(3), a, b, c, e), a, c, b, e), cube_web(3))
        for a, b in web[1][1:]:
            self.assertEqual(unspliced(spliced(web, *web[1][0], b, a), 10, 11), web)

    def test_a_desk_keeps_nothing_of_what_is_asked_elsewhere(self):
        desk = Desk()
        desk.say("kind spokes 5 2")
        before = [desk.say(row) for row in ("shown", "first", "pieces", "layers 0")]
        for question in text_questions() + better_questions()[::7]:
            answer_of(question)
        self.assertEqual([desk.say(row) for row in ("shown", "first", "pieces", "layers 0")], before)
        self.assertEqual(desk.say("back"), "ok")
        self.assertEqual(desk.say("shown"), "web 1 0")


if __name__ == "__main__":
    unittest.main()
