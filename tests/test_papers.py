"""Stage 4: papers that ties lack."""

import copy
import itertools
import unittest

from noshortring.papers import (completed, completions_many, is_completion, lacks, may_tie, paper_for, paper_good)
from noshortring.webs import web_good
from tests.helper import (LATE, LINES, NEVER, PETERSEN, SEVERAL, cube_web, fields_of, full_web, known_webs, made,
                          plain_fits, plain_lacks, plain_may, plain_nears, ring_web, row_web, scattered_webs, small_webs,
                          spokes_web, tied, turns_of, two_sided_web, without)

NO_NUMBER = ("NoNumber", {})
NO_PLACE = ("NoPlace", {})
WRONG_D = NEVER + [16, 17, (3,), [3]]
WRONG_G = NEVER + [0, 1, 2, 17, (3,), [3]]
SOME_G = (3, 4, 5, 16)
# The calls of 4.3 to 4.5, with something to hand in behind the numbers.
BOUNDED = [(completed, ()), (is_completion, ((1, ()),)), (paper_good, (("over", 0),)), (paper_for, ()),
           (completions_many, ())]


def more(web, *pairs):
    return made(web[0], list(web[1]) + list(pairs))


def plain_paper(web, d, g, thing):
    """Whether the thing is a paper, by the words of 4.4 one by one."""
    if type(thing) is not tuple or not thing or type(thing[0]) is not str:
        return False
    if thing[0] == "ring" and len(thing) == 2:
        ring = thing[1]
        if type(ring) is not tuple or any(type(place) is not int for place in ring):
            return False
        return 3 <= len(ring) < g and len(set(ring)) == len(ring) and all(
            tied(web, ring[i - 1], ring[i]) for i in range(len(ring)))
    if len(thing) < 2 or type(thing[1]) is not int or not 0 <= thing[1] < web[0]:
        return False
    a = thing[1]
    has = len(plain_nears(web)[a])
    may = sorted(b for one, b in plain_may(web, d, g) if one == a)
    if thing[0] == "over":
        return len(thing) == 2 and has > d
    if thing[0] == "lack":
        return len(thing) == 2 and has < d and len(may) < d - has
    if thing[0] != "cases" or len(thing) != 3 or has >= d or type(thing[2]) is not list:
        return False
    for case in thing[2]:
        if type(case) is not tuple or len(case) != 2 or type(case[0]) is not int:
            return False
    return [b for b, paper in thing[2]] == may and all(
        plain_paper(more(web, (a, b)), d, g, paper) for b, paper in thing[2])


def taken_out():
    """Webs with d and g by which they fit with up to three ties more."""
    known = [(PETERSEN, 3, 5), (LINES, 3, 6), (full_web(16), 15, 3), (two_sided_web(8, 8), 8, 4), (ring_web(16), 2, 16),
             (ring_web(3), 2, 3), (cube_web(4), 4, 4), (spokes_web(8, 3), 3, 6), (spokes_web(7, 2), 3, 5),
             (made(2, [(0, 1)]), 1, 16), (made(6, [(0, 1), (2, 3), (4, 5)]), 1, 3)]
    for web, d, g in known:
        for ties in [(), web[1][:1], web[1][-1:], web[1][:3], web[1][1::len(web[1]) // 2 + 1], web[1][-3:]]:
            yield web, without(web, *ties[:3]), d, g


def asked():
    """Webs with d and g, lacking no tie, some, and six, of all sizes."""
    for web in list(small_webs(4)) + list(small_webs(5))[75::5]:
        for d in range(6):
            for g in SOME_G:
                if plain_lacks(web, d) <= 6:
                    yield web, d, g
    for whole, web, d, g in taken_out():
        for each in (d, d - 1):
            for size in {max(3, g - 1), g, min(16, g + 1)}:
                if plain_lacks(web, each) <= 6:
                    yield web, each, size
    for web in [SEVERAL, LATE] + scattered_webs():
        for d in range(3):
            for g in (3, 5, 16):
                if plain_lacks(web, d) <= 6:
                    yield web, d, g


def parts_of(paper):
    """A paper and all papers within it."""
    yield paper
    if paper[0] == "cases":
        for b, within in paper[2]:
            yield from parts_of(within)


class MayTie(unittest.TestCase):
    """[4.1]"""

    def test_as_the_words_tell(self):
        for web in known_webs()[::3] + list(small_webs(4)):
            for d, g in itertools.product((0, 1, 2, 3, 15), (3, 4, 5, 8, 16)):
                due = plain_may(web, d, g)
                for a, b in itertools.product(range(web[0]), repeat=2):
                    self.assertIs(may_tie(web, d, g, a, b), (a, b) in due, (web, d, g, a, b))

    def test_how_far_is_far_enough(self):
        for g in range(3, 17):
            for far in range(1, 16):
                self.assertIs(may_tie(row_web(16), 2, g, 0, far), far == 15, (g, far))
                self.assertIs(may_tie(row_web(16), 3, g, 0, far), far >= g - 1, (g, far))
        self.assertIs(may_tie(SEVERAL, 1, 16, 12, 13), True)
        self.assertIs(may_tie(SEVERAL, 3, 16, 0, 1), True)

    def test_one_place_and_itself_never(self):
        for web in [(1, ()), (16, ()), PETERSEN]:
            for place in range(web[0]):
                for d, g in [(0, 3), (15, 3), (15, 16)]:
                    self.assertIs(may_tie(web, d, g, place, place), False)

    def test_the_least_and_the_greatest_d(self):
        self.assertIs(may_tie((16, ()), 0, 3, 0, 1), False)
        self.assertIs(may_tie((16, ()), 1, 3, 0, 1), True)
        almost = without(full_web(16), (3, 9))
        self.assertIs(may_tie(almost, 15, 3, 9, 3), True)
        self.assertIs(may_tie(almost, 15, 4, 9, 3), False)
        self.assertIs(may_tie(almost, 14, 3, 9, 3), False)

    def test_no_number_ahead_of_no_place(self):
        for place in (0, 99, None, (0,), True):
            for thing in WRONG_D:
                self.assertEqual(fields_of(may_tie, PETERSEN, thing, 5, place, 0), NO_NUMBER, thing)
            for thing in WRONG_G:
                self.assertEqual(fields_of(may_tie, PETERSEN, 3, thing, 0, place), NO_NUMBER, thing)
                self.assertEqual(fields_of(may_tie, PETERSEN, thing, thing, thing, thing), NO_NUMBER, thing)

    def test_no_place(self):
        for web in [(1, ()), PETERSEN, (16, ())]:
            for thing in NEVER + [web[0], (0,), (0, 1), [0]]:
                for d, g in [(0, 3), (3, 5), (15, 16)]:
                    self.assertEqual(fields_of(may_tie, web, d, g, thing, 0), NO_PLACE, thing)
                    self.assertEqual(fields_of(may_tie, web, d, g, 0, thing), NO_PLACE, thing)
                    self.assertEqual(fields_of(may_tie, web, d, g, thing, thing), NO_PLACE, thing)


class Lacks(unittest.TestCase):
    """[4.2]"""

    def test_as_counted(self):
        for web in known_webs():
            for d in range(16):
                self.assertEqual(lacks(web, d), plain_lacks(web, d), (web, d))

    def test_by_hand(self):
        for web, d, due in [((1, ()), 0, 0), ((1, ()), 15, 15), ((16, ()), 15, 240), (PETERSEN, 3, 0), (PETERSEN, 4, 10),
                            (PETERSEN, 2, 0), (row_web(3), 1, 0), (row_web(3), 2, 2), (row_web(3), 3, 5),
                            (two_sided_web(1, 15), 2, 15), (full_web(16), 15, 0), (without(full_web(16), (0, 1)), 15, 2)]:
            self.assertEqual(lacks(web, d), due, (web, d))

    def test_no_number(self):
        for web in [PETERSEN, (1, ())]:
            for thing in WRONG_D:
                self.assertEqual(fields_of(lacks, web, thing), NO_NUMBER, thing)

    def test_six_and_seven(self):
        for many, d in [(6, 1), (3, 2), (2, 3), (1, 6), (7, 1), (4, 2), (1, 7), (16, 1), (16, 15), (1, 15)]:
            refusal = None if many * d <= 6 else ("TooGreat", {"many": many * d, "most": 6})
            for call, behind in BOUNDED:
                self.assertEqual(fields_of(call, (many, ()), d, 3, *behind), refusal, (call, many, d))
                self.assertEqual(fields_of(call, (many, ()), d, 16, *behind), refusal, (call, many, d))
        half = without(PETERSEN, *PETERSEN[1][:3])
        self.assertEqual(lacks(half, 3), 6)
        for call, behind in BOUNDED:
            self.assertIsNone(fields_of(call, half, 3, 5, *behind))
            self.assertEqual(fields_of(call, half, 4, 5, *behind), ("TooGreat", {"many": 16, "most": 6}))

    def test_too_great_of_whatever_thing(self):
        for thing in NEVER:
            for call in (is_completion, paper_good):
                self.assertEqual(fields_of(call, (7, ()), 1, 3, thing), ("TooGreat", {"many": 7, "most": 6}), thing)

    def test_no_number_ahead_of_too_great(self):
        for web in [(16, ()), PETERSEN, (1, ())]:
            for call, behind in BOUNDED:
                for thing in WRONG_D:
                    self.assertEqual(fields_of(call, web, thing, 5, *behind), NO_NUMBER, thing)
                for thing in WRONG_G:
                    self.assertEqual(fields_of(call, web, 3, thing, *behind), NO_NUMBER, thing)
                    self.assertEqual(fields_of(call, web, 15, thing, *behind), NO_NUMBER, thing)
                    self.assertEqual(fields_of(call, web, thing, thing, *behind), NO_NUMBER, thing)


class Completions(unittest.TestCase):
    """[4.3] and [4.5]"""

    def test_as_by_going_through_all(self):
        webs = list(small_webs(5))
        fitting = {(d, g): [web for web in webs if plain_fits(web, d, g)] for d in range(6) for g in SOME_G}
        for web, d, g in asked():
            if web[0] <= 5 and g in SOME_G:
                due = [fit for fit in fitting[d, g] if fit[0] == web[0] and set(fit[1]) >= set(web[1])]
                self.assertEqual(completions_many(web, d, g), len(due), (web, d, g))
                told = completed(web, d, g)
                self.assertTrue(told in due if due else told is None, (web, d, g))
                for fit in fitting[d, g]:
                    self.assertIs(is_completion(web, d, g, fit), fit in due, (web, d, g, fit))

    def test_told_ones_are_completions(self):
        for web, d, g in asked():
            told = completed(web, d, g)
            self.assertEqual(told is None, completions_many(web, d, g) == 0, (web, d, g))
            if told is not None:
                self.assertIs(is_completion(web, d, g, told), True)
                self.assertIs(web_good(told), True)
                self.assertIs(plain_fits(told, d, g), True)
                self.assertLessEqual(set(web[1]), set(told[1]))

    def test_what_was_taken_out_can_be_put_in(self):
        for whole, web, d, g in taken_out():
            self.assertIs(is_completion(web, d, g, whole), True)
            self.assertIs(is_completion(web, d, g, completed(web, d, g)), True)

    def test_by_hand(self):
        self.assertEqual(completed((1, ()), 0, 3), (1, ()))
        self.assertEqual(completed((2, ()), 1, 16), (2, ((0, 1),)))
        self.assertEqual(completed((3, ()), 2, 3), full_web(3))
        self.assertIsNone(completed((3, ()), 2, 4))
        self.assertIsNone(completed((1, ()), 1, 3))
        self.assertIsNone(completed((3, ()), 1, 3))
        self.assertIsNone(completed(full_web(4), 2, 3))
        self.assertIsNone(completed(full_web(4), 3, 4))
        self.assertEqual(completed(row_web(16), 2, 16), ring_web(16))
        self.assertEqual(completed(without(LINES, *LINES[1][:1]), 3, 6), LINES)

    def test_how_many_by_hand(self):
        for web, d, g, due in [((1, ()), 0, 3, 1), ((1, ()), 1, 3, 0), ((4, ()), 1, 3, 3), ((6, ()), 1, 3, 15),
                               ((5, ()), 1, 3, 0), ((3, ()), 2, 3, 1), ((3, ()), 2, 4, 0), (row_web(16), 2, 16, 1),
                               (made(5, [(0, 1), (3, 4)]), 2, 3, 4), (made(6, [(0, 1), (2, 3), (4, 5)]), 2, 3, 8),
                               (PETERSEN, 3, 5, 1), (PETERSEN, 3, 6, 0), (PETERSEN, 2, 5, 0)]:
            self.assertEqual(completions_many(web, d, g), due, (web, d, g))

    def test_whatever_is_no_completion(self):
        web = without(PETERSEN, (0, 1))
        self.assertIs(is_completion(web, 3, 5, PETERSEN), True)
        wrong = [web, list(PETERSEN), (10, list(PETERSEN[1])), (10, PETERSEN[1][::-1]), (11, PETERSEN[1]),
                 [10, PETERSEN[1]], (10, PETERSEN[1], ()), PETERSEN[1], (10,), {10: PETERSEN[1]}, ("10", PETERSEN[1]),
                 (10, ([0, 1],) + PETERSEN[1][1:]), (10, ({},) + PETERSEN[1][1:]), (10, ((0, True),) + PETERSEN[1][1:]),
                 (10, PETERSEN[1] * 2), spokes_web(5, 1), LINES, (10, ())]
        for thing in NEVER + wrong:
            self.assertIs(is_completion(web, 3, 5, thing), False, thing)
        self.assertIs(is_completion((1, ()), 0, 3, (True, ())), False)
        self.assertIs(is_completion((2, ()), 1, 3, (2, ((False, True),))), False)

    def test_all_its_ties_are_there(self):
        web = made(4, [(0, 1), (2, 3)])
        self.assertIs(is_completion(web, 2, 4, made(4, [(0, 1), (1, 2), (2, 3), (3, 0)])), True)
        self.assertIs(is_completion(web, 2, 4, made(4, [(0, 2), (2, 1), (1, 3), (3, 0)])), False)
        self.assertIs(is_completion(web, 2, 5, made(4, [(0, 1), (1, 2), (2, 3), (3, 0)])), False)
        self.assertIs(is_completion(full_web(4), 2, 3, ring_web(4)), False)


class PaperGood(unittest.TestCase):
    """[4.4]"""

    def good(self, web, d, g, *papers):
        for paper in papers:
            self.assertIs(paper_good(web, d, g, paper), True, (web, d, g, paper))
            self.assertIs(plain_paper(web, d, g, paper), True, (web, d, g, paper))

    def wrong(self, web, d, g, *papers):
        for paper in papers:
            self.assertIs(paper_good(web, d, g, paper), False, (web, d, g, paper))

    def test_over(self):
        self.good(row_web(3), 1, 3, ("over", 1))
        self.wrong(row_web(3), 1, 3, ("over", 0), ("over", 2), ("over", 3), ("over", -1), ("over", True), ("over",),
                   ("over", 1, []), ("over", (1,)), ("over", [1]), ("over", {}), ["over", 1], ("Over", 1))
        self.wrong(row_web(3), 2, 3, ("over", 1))
        self.good(full_web(16), 0, 16, ("over", 0), ("over", 15))
        self.wrong(full_web(16), 15, 16, ("over", 0))

    def test_ring(self):
        self.good(full_web(3), 2, 4, *[("ring", ring) for ring in turns_of((0, 1, 2))])
        self.wrong(full_web(3), 2, 3, ("ring", (0, 1, 2)))
        self.wrong(full_web(3), 2, 4, ("ring", (0, 1)), ("ring", (0, 1, 3)), ("ring", [0, 1, 2]), ("ring", 0),
                   ("ring", (0, True, 2)), ("ring", (0, 1, [2])), ("ring", (0, 1, {})), ("ring",), ("ring", (0, 1, 2), []),
                   ("ring", ()), ("ring", None), ["ring", (0, 1, 2)], ("ring", (0, 1, 2, 0)))
        self.good(PETERSEN, 3, 7, ("ring", (0, 1, 2, 3, 4)), ("ring", (0, 1, 2, 7, 9, 4)))
        self.wrong(PETERSEN, 3, 6, ("ring", (0, 1, 2, 7, 9, 4)))
        self.good(ring_web(15), 2, 16, ("ring", tuple(range(15))))
        self.wrong(ring_web(16), 2, 16, ("ring", tuple(range(16))))

    def test_lack(self):
        self.good((1, ()), 1, 3, ("lack", 0), ("cases", 0, []))
        self.wrong((1, ()), 0, 3, ("lack", 0), ("cases", 0, []))
        self.wrong((2, ()), 1, 3, ("lack", 0), ("lack", 1))
        self.good((2, ()), 2, 3, ("lack", 0), ("lack", 1))
        self.good(row_web(3), 2, 4, ("lack", 0), ("lack", 2))
        self.wrong(row_web(3), 2, 4, ("lack", 1), ("lack", 3), ("lack", False), ("lack", None), ("lack", (0,)),
                   ("lack", [0]), ("lack", 0, []), ("lack",), ["lack", 0])
        self.wrong(row_web(3), 2, 3, ("lack", 0))

    def test_cases(self):
        self.good((3, ()), 1, 3, ("cases", 0, [(1, ("lack", 2)), (2, ("lack", 1))]),
                  ("cases", 1, [(0, ("lack", 2)), (2, ("lack", 0))]),
                  ("cases", 2, [(0, ("lack", 1)), (1, ("cases", 0, []))]))

    def test_cases_within_cases(self):
        def left(a, b, c):
            return ("cases", a, [(b, ("lack", c)), (c, ("lack", b))])

        self.good((5, ()), 1, 16, ("cases", 0, [(1, left(2, 3, 4)), (2, left(1, 3, 4)), (3, left(1, 2, 4)),
                                                (4, left(1, 2, 3))]))
        self.wrong((5, ()), 1, 16, ("cases", 0, [(1, left(2, 3, 4)), (2, left(1, 3, 4)), (3, left(1, 2, 4)),
                                                 (4, left(1, 2, 4))]))

    def test_all_shapes_within_cases(self):
        web = made(6, [(0, 1), (1, 2), (2, 0), (0, 3)])
        self.good(web, 2, 4, ("over", 0), ("ring", (2, 1, 0)),
                  ("cases", 4, [(3, ("ring", (1, 2, 0))), (5, ("over", 0))]),
                  ("cases", 4, [(3, ("lack", 5)), (5, ("cases", 3, [(4, ("lack", 5)), (5, ("over", 0))]))]),
                  ("cases", 3, [(4, ("lack", 5)), (5, ("lack", 4))]))
        self.wrong(web, 2, 4, ("cases", 4, [(3, ("ring", (1, 2, 3))), (5, ("over", 0))]),
                   ("cases", 4, [(3, ("ring", (1, 2, 0))), (5, ("over", 3))]),
                   ("cases", 0, []), ("cases", 1, []))

    def test_the_list_has_each_place_once_and_in_order(self):
        one = (1, ("lack", 2))
        two = (2, ("lack", 1))
        self.good((3, ()), 1, 3, ("cases", 0, [one, two]))
        for cases in [(one, two), [two, one], [one], [two], [], [one, one, two], [one, two, two], [(0, ("lack", 1)), one, two],
                      [one, two, (3, ("lack", 1))], {1: one, 2: two}, None, "", 0, [list(one), two], [one, list(two)],
                      [one, two + (0,)], [one, (2,)], [one, ()], [one, None], [one, (2, None)], [one, (2, ["lack", 1])],
                      [one, (2, ("lack", 2))], [one, (2, ("lack", 0))], [(True, ("lack", 2)), two], [one, ("2", two[1])],
                      [one, ([2], two[1])], [one, ({}, two[1])], [one, ((2,), two[1])], 
                      [one, (2, ("lack", [1]))], [one, (2, ([], 1))], [one, (2, ({}, 1))], [(1, one), (2, two)]]:
            self.wrong((3, ()), 1, 3, ("cases", 0, cases))
        for a in (False, -1, 3, None, [0], (0,), {}, "0"):
            self.wrong((3, ()), 1, 3, ("cases", a, [one, two]))
        self.wrong((3, ()), 1, 3, ["cases", 0, [one, two]], ("cases", 0, [one, two], 0), ("cases", 0), ("cases", [one, two], 0),
                   ("Cases", 0, [one, two]), (["cases"], 0, [one, two]), ({}, 0, [one, two]), ("over", 0, [one, two]))

    def test_whatever_is_handed_in(self):
        for web, d, g in [((3, ()), 1, 3), (row_web(3), 1, 3), (full_web(3), 2, 4), ((1, ()), 0, 3), (full_web(16), 15, 16)]:
            for thing in NEVER:
                self.wrong(web, d, g, thing, (thing, 0), (thing, thing), ("over", thing), ("ring", thing), ("lack", thing),
                           ("cases", thing, []), (thing, 0, []), ("cases", thing, [thing]), ("cases", 0, [thing]),
                           ("cases", 0, [(1, thing), (2, thing)]), ("cases", 0, [(thing, ("lack", 2)), (2, ("lack", 1))]),
                           ("cases", 0, (thing,)), ("ring", (0, 1, thing)))

    def test_changed_papers(self):
        seen = 0
        for web, d, g in asked():
            paper = paper_for(web, d, g)
            if paper is None or paper[0] != "cases":
                continue
            changed = [("cases", a, paper[2]) for a in range(web[0])] + [("lack", paper[1]), ("over", paper[1])]
            changed += [("cases", paper[1], paper[2][:i] + paper[2][i + 1:]) for i in range(len(paper[2]))]
            changed += [("cases", paper[1], [(b, ("lack", a)) for b, within in paper[2]]) for a in range(web[0])]
            for thing in changed:
                seen += 1
                self.assertIs(paper_good(web, d, g, thing), plain_paper(web, d, g, thing), (web, d, g, thing))
        self.assertGreater(seen, 100)


class PaperFor(unittest.TestCase):
    """[4.4]"""

    def test_always_just_one_of_both(self):
        shapes = {}
        for web, d, g in asked():
            paper = paper_for(web, d, g)
            whole = completed(web, d, g)
            self.assertEqual((paper is None) + (whole is None), 1, (web, d, g))
            if paper is not None:
                self.assertIs(paper_good(web, d, g, paper), True, (web, d, g, paper))
                self.assertIs(plain_paper(web, d, g, paper), True, (web, d, g, paper))
                for part in parts_of(paper):
                    shapes[part[0]] = shapes.get(part[0], 0) + 1
        self.assertEqual(sorted(shapes), ["cases", "lack", "over", "ring"])

    def test_a_web_with_a_paper_has_no_completion(self):
        for web, d, g in asked():
            if completed(web, d, g) is not None:
                for a in range(web[0]):
                    for paper in [("over", a), ("lack", a), ("cases", a, [])]:
                        self.assertIs(paper_good(web, d, g, paper), False, (web, d, g, paper))

    def test_by_hand(self):
        self.assertIsNone(paper_for((1, ()), 0, 3))
        self.assertIsNone(paper_for(PETERSEN, 3, 5))
        self.assertEqual(paper_for((1, ()), 1, 3)[1], 0)
        self.assertEqual(paper_for(row_web(3), 1, 3), ("over", 1))
        self.assertEqual(paper_for(ring_web(15), 2, 16)[0], "ring")
        self.assertIn(paper_for((3, ()), 1, 3)[0], ("cases",))

    def test_told_anew_each_time(self):
        first = paper_for((5, ()), 1, 3)
        kept = copy.deepcopy(first)
        first[2][0][1][2].clear()
        first[2].append("more")
        first[2][1] = None
        second = paper_for((5, ()), 1, 3)
        self.assertEqual(second, kept)
        self.assertIs(paper_good((5, ()), 1, 3, second), True)
        self.assertIs(paper_good((5, ()), 1, 3, first), False)
        self.assertEqual(second, kept)


class Over(unittest.TestCase):
    """[4.5]"""

    def test_a_web_that_fits_is_its_own_only_completion(self):
        seen = 0
        for web, d, g in asked():
            if plain_fits(web, d, g):
                seen += 1
                self.assertEqual(completions_many(web, d, g), 1)
                self.assertEqual(completed(web, d, g), web)
                self.assertIsNone(paper_for(web, d, g))
        self.assertGreater(seen, 20)

    def test_with_more_ties_no_more_completions(self):
        for web in list(small_webs(4)) + list(small_webs(5))[75::11]:
            for d, g in [(1, 3), (2, 3), (2, 4), (3, 3), (4, 3)]:
                if plain_lacks(web, d) <= 6:
                    many = completions_many(web, d, g)
                    for pair in itertools.combinations(range(web[0]), 2):
                        self.assertLessEqual(completions_many(more(web, pair), d, g), many)

    def test_a_place_that_must_be_tied_is_in_each(self):
        seen = 0
        fitting = {}
        for web, d, g in asked():
            may = plain_may(web, d, g)
            for a in range(web[0]):
                places = {b for one, b in may if one == a}
                if places and len(places) == d - len(plain_nears(web)[a]):
                    whole = completed(web, d, g)
                    if web[0] <= 4:
                        key = (web[0], d, g)
                        if key not in fitting:
                            fitting[key] = [fit for fit in small_webs(4) if fit[0] == web[0] and plain_fits(fit, d, g)]
                        for fit in fitting[key]:
                            if is_completion(web, d, g, fit):
                                self.assertLessEqual(places, set(plain_nears(fit)[a]))
                    if whole is not None:
                        seen += 1
                        self.assertLessEqual(places, set(plain_nears(whole)[a]))
                        forced = more(web, *[(a, b) for b in places])
                        self.assertEqual(completions_many(forced, d, g), completions_many(web, d, g))
        self.assertGreater(seen, 20)


if __name__ == "__main__":
    unittest.main()
