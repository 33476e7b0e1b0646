"""[10.2] to [10.4]: a desk that is told deeds and asked questions."""

import itertools
import random
import re
import unittest

from noshortring.desk import Desk
from noshortring.texts import web_read
from tests.helper import (LATE, NEVER, PETERSEN, SEVERAL, beside_in, even_webs, fields_of, known_webs, made, outcome,
                          plain_even, plain_fars, plain_lacks, plain_merit, plain_nears, plain_pieces, plain_ring,
                          ring_web, rings_so_long, row_web, small_webs, tied)
from tests.test_betterings import plain_crossed
from tests.test_fewest import plain_least
from tests.test_kinds import WORDS, plain_kinds, plain_web

NO_PLACE = ("NoPlace", {})
NO_LINE = ("NoLine", {})
NO_NUMBER = ("NoNumber", {})
NO_WEB = ("NoWeb", {"number": -1})
NUMBERS = {"fresh": 1, "tie": 2, "cut": 2, "cross": 4, "back": 0, "ties": 0, "near": 1, "far": 2, "ring": 0, "rings": 0,
           "first": 0, "even": 0, "pieces": 0, "layers": 1, "at": 1, "by": 2, "lacks": 1, "fits": 2, "least": 2, "shown": 0}
BARE = [word for word, many in NUMBERS.items() if many == 0 and word != "back"]
KINDS = plain_kinds()
WRONG_ROWS = [
    "", " ", "  ", "\n", "Ties", "ties ", " ties", "ties 0", "tie", "tie 0", "tie 0 1 2", "tie  0 1", "tie 0  1", "tie 0 1 ",
    "tie 00 1", "tie 0 01", "tie -0 1", "tie +0 1", "tie 0 1.", "tie 0, 1", "tie 0-1", "tie a b", "tie 0 None", "tie\n0 1",
    "tie 0\n1", "tie 0 1\n", "\ntie 0 1", "ties\n", "ties\nties", "back\n", "back 1", "back back", "undo", "fresh", "fresh x",
    "fresh 3 4", "fresh 03", "fresh -3", "fresh +3", "fresh " + "1" * 21, "fresh 3\nfresh 3", "kind", "kind ring", "kind 5",
    "kind 5 ring", "kind ring x", "kind ring 05", "kind ring 5 5", "kind ring 2", "kind ring 17", "kind spokes 5",
    "kind spokes 5 0", "kind spokes 5 3", "kind spokes 5 2 1", "kind star 5", "kind Ring 5", "kind lines 8", "kind two 8 9",
    "kind ring 5 ", "kind  ring 5", "kind ring  5", "kind ring -5", "kind ring " + "1" * 20, "kind ring " + "1" * 21,
    "kind ring 5\n", "kind\nring 5", "kind two 1", "kind two 1 1 1", "kind two 0 1", "cut", "cut 0", "cut 0 1 2", "cut 0 x",
    "cross 0 1 2", "cross 0 1 2 3 4", "cross 0 1 2 x", "cross 0 1  2 3", "near", "near 0 1", "near x", "near -1", "near 0 ",
    "near 00", "near " + "0" * 20, "near " + "1" * 21, "far 0", "far 0 1 2", "far 0 y", "ring 3", "rings 3", "first 0",
    "even 2", "pieces 1", "layers", "layers 0 1", "layers x", "at", "at 0 1", "by 0", "by 0 1 2", "lacks", "lacks 2 3",
    "lacks x", "fits 2", "fits 2 3 4", "fits x 3", "fits 3 x", "least 2", "least 2 3 4", "least 2 -3", "shown 1", "shown\n",
    "web 1 0", "ok", "none", "ties;ties", "x" * 100, " ".join(["tie"] * 400), "\n".join(["ties"] * 400), "tie 0 1 ; tie 1 2"]


def told(thing):
    return "none" if thing is None else str(thing)


def row_of(things):
    return " ".join(map(str, things)) or "none"


def lines_of(rows):
    return row_of("-".join(map(str, row)) for row in rows)


class PlainDesk:
    """A desk by the words of 10.2 to 10.4, with the slow plain answers."""

    def __init__(self):
        self.deeds = [(1, ())]

    def say(self, row):
        words = row.split(" ") if isinstance(row, str) else [None]
        if words[0] == "kind":
            if [word for word in words[2:] if not re.fullmatch("0|[1-9][0-9]{0,19}", word)]:
                return NO_LINE
            kind = tuple(words[1:2]) + tuple(int(word) for word in words[2:])
            return self.keep(plain_web(kind) if kind in KINDS else NO_LINE)
        if NUMBERS.get(words[0]) != len(words) - 1:
            return NO_LINE
        if [word for word in words[1:] if not re.fullmatch("0|[1-9][0-9]{0,19}", word)]:
            return NO_LINE
        numbers = [int(word) for word in words[1:]]
        if words[0] == "back":
            return NO_LINE if len(self.deeds) == 1 else self.deeds.pop() and "ok"
        web = self.deeds[-1]
        if words[0] == "fresh":
            return self.keep((numbers[0], ()) if 1 <= numbers[0] <= 16 else NO_WEB)
        if words[0] == "cross":
            return self.keep(plain_crossed(web, *numbers))
        if words[0] in ("lacks", "fits", "least"):
            return self.by_numbers(web, words[0], *numbers)
        if numbers and max(numbers) >= web[0]:
            return NO_PLACE
        if words[0] in ("tie", "cut"):
            if numbers[0] == numbers[1] or tied(web, *numbers) != (words[0] == "cut"):
                return NO_LINE
            others = [tie for tie in web[1] if set(tie) != set(numbers)]
            return self.keep(made(web[0], others + [numbers] * (words[0] == "tie")))
        return self.of_web(web, *words[:1], *numbers)

    def keep(self, web):
        if type(web[0]) is str:
            return web
        self.deeds.append(web)
        return "ok"

    def by_numbers(self, web, word, d, g=3):
        if not (0 if word == "lacks" else 2) <= d <= 15 or not 3 <= g <= 16:
            return NO_NUMBER
        if word == "lacks":
            return str(plain_lacks(web, d))
        if word == "least":
            return str(plain_least(d, g) + plain_least(d, g) * d % 2)
        ring = plain_ring(web)
        return "yes" if plain_even(web) == d and (ring is None or ring >= g) else "no"

    def of_web(self, web, word, a=None, b=None):
        ring = plain_ring(web)
        if word == "ties":
            return lines_of(web[1])
        if word == "near":
            return row_of(plain_nears(web)[a])
        if word == "far":
            return told(plain_fars(web)[a][b])
        if word == "ring":
            return told(ring)
        if word == "rings":
            return str(-plain_merit(web)[1])
        if word == "first":
            return "none" if ring is None else lines_of(rings_so_long(web, ring)[:1])
        if word == "even":
            return told(plain_even(web))
        if word == "pieces":
            return lines_of(plain_pieces(web))
        if word == "layers":
            fars = [far for far in plain_fars(web)[a] if far is not None]
            return row_of(fars.count(far) for far in range(max(fars) + 1))
        if word == "shown":
            return " ; ".join([f"web {web[0]} {len(web[1])}"] + [f"tie {a} {b}" for a, b in web[1]])
        if word == "by" and not tied(web, a, b):
            return NO_LINE
        for size in range(3, web[0] + 1):
            if [ring for ring in rings_so_long(web, size) if a in ring and (word == "at" or beside_in(ring, a, b))]:
                return str(size)
        return "none"


def rows_for(web):
    """The deeds that make a web."""
    return [f"fresh {web[0]}"] + [f"tie {a} {b}" for a, b in web[1]]


def desk_with(rows):
    desk = Desk()
    for row in rows:
        desk.say(row)
    return desk


def questions_of(many):
    """Questions to a web of so many places, each of 10.3, some of which are refused."""
    places = sorted({0, 1, many // 2, many - 1, many})
    rows = BARE + [f"{word} {a}" for word in ("near", "layers", "at") for a in places]
    rows += [f"{word} {a} {b}" for word in ("far", "by") for a, b in itertools.product(places, repeat=2)]
    rows += [f"lacks {d}" for d in (0, 1, 2, 3, 15, 16)]
    return rows + [f"{word} {d} {g}" for word in ("fits", "least") for d in (0, 1, 2, 3, 15, 16) for g in (2, 3, 4, 5, 16, 17)]


def some_row(chance, many):
    """A row by chance: a deed, a question, or something that is none."""
    words = list(NUMBERS) + ["tie"] * 30 + ["cut"] * 4 + ["cross"] * 8 + ["back"] * 6
    word = chance.choice(words)
    if chance.random() < 0.06:
        return chance.choice(WRONG_ROWS)
    if chance.random() < 0.04:
        return " ".join(map(str, ("kind",) + chance.choice([kind for kind in KINDS if kind[1] < 6])))
    if word == "fresh":
        return f"fresh {chance.choice([0, 5, 6, 7, 8, 8, 9, 10, 17])}"
    return " ".join([word] + [str(chance.randrange(many + (chance.random() < 0.1))) for turn in range(NUMBERS[word])])


class Deeds(unittest.TestCase):
    """[10.2]"""

    def shown(self, desk, web):
        self.assertEqual(web_read(desk.say("shown").replace(" ; ", "\n")), web)

    def test_at_first_a_web_of_one_place(self):
        self.assertEqual(Desk().say("shown"), "web 1 0")
        self.assertEqual(Desk().say("pieces"), "0")
        self.assertEqual(Desk().say("ties"), "none")

    def test_fresh(self):
        for many in range(1, 17):
            desk = desk_with(["kind full 5"])
            self.assertEqual(desk.say(f"fresh {many}"), "ok")
            self.shown(desk, (many, ()))
        for number in ("0", "17", "18", "99", "1" * 20, "9" * 20):
            desk = desk_with(["kind full 5"])
            self.assertEqual(fields_of(desk.say, f"fresh {number}"), NO_WEB)
            self.assertEqual(desk.say("even"), "4")

    def test_kinds(self):
        for kind in KINDS:
            desk = Desk()
            self.assertEqual(desk.say(" ".join(map(str, ("kind",) + kind))), "ok")
            self.shown(desk, plain_web(kind))
        desk = desk_with(["kind ring 5"])
        for word in WORDS + ("star", "", "kind"):
            for numbers in [(), (0,), (2,), (5,), (17,), (5, 0), (5, 2), (5, 3), (0, 3), (9, 9), (5, 2, 1)]:
                if (word,) + numbers not in KINDS:
                    row = " ".join(["kind", word] + [str(number) for number in numbers])
                    self.assertEqual(fields_of(desk.say, row), NO_LINE, row)
        self.shown(desk, ring_web(5))

    def test_tie_and_cut(self):
        desk = desk_with(["fresh 4"])
        for a, b in [(3, 0), (0, 1), (2, 1)]:
            self.assertEqual(desk.say(f"tie {a} {b}"), "ok")
        self.shown(desk, made(4, [(0, 3), (0, 1), (1, 2)]))
        for a, b in itertools.product(range(6), repeat=2):
            due = NO_PLACE if max(a, b) > 3 else NO_LINE if a == b or {a, b} in [{0, 3}, {0, 1}, {1, 2}] else None
            if due is not None:
                self.assertEqual(fields_of(desk.say, f"tie {a} {b}"), due, (a, b))
            there = {a, b} in [{0, 3}, {0, 1}, {1, 2}]
            if not there:
                self.assertEqual(fields_of(desk.say, f"cut {a} {b}"), NO_PLACE if max(a, b) > 3 else NO_LINE, (a, b))
        self.shown(desk, made(4, [(0, 3), (0, 1), (1, 2)]))
        self.assertEqual(desk.say("cut 3 0"), "ok")
        self.assertEqual(desk.say("cut 0 1"), "ok")
        self.shown(desk, (4, ((1, 2),)))
        self.assertEqual(desk.say("tie 2 3"), "ok")
        self.shown(desk, (4, ((1, 2), (2, 3))))

    def test_cross(self):
        for web in [ring_web(4), made(5, [(0, 1), (2, 3), (3, 4)]), (1, ())]:
            for four in itertools.product(range(web[0] + 1), repeat=4):
                desk = desk_with(rows_for(web))
                told_of = outcome(desk.say, "cross " + " ".join(map(str, four)))
                due = plain_crossed(web, *four)
                if type(due[0]) is str:
                    self.assertEqual(told_of, due, four)
                    self.shown(desk, web)
                else:
                    self.assertEqual(told_of, "ok", four)
                    self.shown(desk, due)

    def test_no_place_ahead_of_no_line(self):
        desk = desk_with(["kind ring 4"])
        for row in ["tie 0 4", "tie 4 4", "tie 4 0", "cut 4 4", "cut 0 9", "cut 9 2", "cross 0 0 0 4", "cross 4 4 4 4",
                    "cross 0 2 1 " + "9" * 20, "by 4 4", "by 0 4", "by 4 1"]:
            self.assertEqual(fields_of(desk.say, row), NO_PLACE, row)
        for row in ["tie 0 0", "tie 0 1", "tie 1 0", "cut 0 0", "cut 0 2", "cross 0 0 0 0", "cross 0 2 1 3", "by 0 0", "by 0 2"]:
            self.assertEqual(fields_of(desk.say, row), NO_LINE, row)

    def test_back(self):
        rows = ["fresh 5", "tie 0 1", "tie 4 1", "cut 0 1", "kind cube 3", "cross 0 1 6 7", "fresh 1", "fresh 1", "kind full 1"]
        desk = Desk()
        self.assertEqual(fields_of(desk.say, "back"), NO_LINE)
        seen = [desk.say("shown")]
        for row in rows:
            self.assertEqual(desk.say(row), "ok")
            seen.append(desk.say("shown"))
        for shown in reversed(seen[:-1]):
            self.assertEqual(desk.say("back"), "ok")
            self.assertEqual(desk.say("shown"), shown)
        for turn in range(3):
            self.assertEqual(fields_of(desk.say, "back"), NO_LINE)
            self.assertEqual(desk.say("shown"), "web 1 0")

    def test_back_is_not_undone_by_back(self):
        desk = desk_with(["fresh 2", "fresh 3", "fresh 4", "back", "fresh 5", "back", "back"])
        self.shown(desk, (2, ()))
        self.assertEqual(desk.say("back"), "ok")
        self.shown(desk, (1, ()))
        self.assertEqual(fields_of(desk.say, "back"), NO_LINE)

    def test_what_was_refused_does_not_stand(self):
        desk = desk_with(["fresh 3", "tie 0 1"])
        for row in ["tie 0 1", "tie 0 3", "fresh 17", "kind ring 2", "cross 0 1 1 2", "cut 1 2", "ties x", "near 3", "fits 1 3"]:
            self.assertIsNotNone(fields_of(desk.say, row))
        self.assertEqual(desk.say("back"), "ok")
        self.assertEqual(desk.say("shown"), "web 3 0")
        self.assertEqual(desk.say("back"), "ok")
        self.assertEqual(fields_of(desk.say, "back"), NO_LINE)


class Questions(unittest.TestCase):
    """[10.3]"""

    def check(self, web):
        plain = PlainDesk()
        plain.deeds.append(web)
        desk = desk_with(rows_for(web))
        for row in questions_of(web[0]):
            self.assertEqual(outcome(desk.say, row), plain.say(row), (web, row))

    def test_small_webs(self):
        for web in list(small_webs(4))[::2] + list(small_webs(5))[75::60]:
            self.check(web)

    def test_webs_of_all_sizes(self):
        for web in known_webs()[::4] + [web for web in even_webs()[::4] if len(web[1]) < 25] + [SEVERAL, LATE, PETERSEN]:
            self.check(web)

    def test_by_hand(self):
        for rows, answers in [
                ([], {"ties": "none", "near 0": "none", "far 0 0": "0", "ring": "none", "rings": "0", "first": "none", "even": "0",
                      "pieces": "0", "layers 0": "1", "at 0": "none", "lacks 0": "0", "lacks 15": "15", "fits 2 3": "no",
                      "least 3 5": "10", "least 15 16": "227044470", "shown": "web 1 0"}),
                (["kind spokes 5 2"], {
                    "near 9": "4 6 7", "far 0 7": "2", "ring": "5", "rings": "12", "first": "0-1-2-3-4", "even": "3",
                    "pieces": "0-1-2-3-4-5-6-7-8-9", "layers 3": "1 3 6", "at 9": "5", "by 0 5": "5", "lacks 3": "0",
                    "lacks 4": "10", "fits 3 5": "yes", "fits 3 6": "no", "fits 2 5": "no", "least 3 6": "14"}),
                (["fresh 5", "tie 3 1", "tie 0 4"], {
                    "ties": "0-4 1-3", "near 1": "3", "near 2": "none", "far 1 3": "1", "far 0 1": "none", "even": "none",
                    "pieces": "0-4 1-3 2", "layers 1": "1 1", "layers 2": "1", "by 0 4": "none", "lacks 2": "6", "lacks 1": "1",
                    "shown": "web 5 2 ; tie 0 4 ; tie 1 3"}),
                (["kind ring 16"], {"first": "-".join(map(str, range(16))), "rings": "1", "ring": "16", "fits 2 16": "yes",
                                    "layers 10": "1 2 2 2 2 2 2 2 1", "at 15": "16", "by 15 0": "16", "near 0": "1 15"})]:
            desk = desk_with(rows)
            for row, answer in answers.items():
                self.assertEqual(desk.say(row), answer, row)

    def test_refused_as_there(self):
        desk = desk_with(["kind ring 4"])
        for row in ["near 4", "far 0 4", "far 4 0", "layers 4", "at 4", "by 0 4", "near " + "9" * 20]:
            self.assertEqual(fields_of(desk.say, row), NO_PLACE, row)
        for row in ["lacks 16", "fits 1 3", "fits 0 3", "fits 16 3", "fits 2 2", "fits 2 17", "least 1 3", "least 16 3",
                    "least 3 2", "least 3 17", "lacks " + "9" * 20, "fits 0 0", "least 0 99"]:
            self.assertEqual(fields_of(desk.say, row), NO_NUMBER, row)
        self.assertEqual(fields_of(desk.say, "by 0 2"), NO_LINE)
        self.assertEqual(fields_of(desk.say, "by 1 1"), NO_LINE)

    def test_answers_are_texts_in_one_row(self):
        for web in known_webs()[::6]:
            desk = desk_with(rows_for(web))
            for row in questions_of(web[0]):
                answer = outcome(desk.say, row)
                if type(answer) is not tuple:
                    self.assertIs(type(answer), str)
                    self.assertNotIn("\n", answer)
                    self.assertEqual(answer, " ".join(answer.split()))
                    self.assertNotEqual(answer, "")


class NoRows(unittest.TestCase):
    """[10.4]"""

    def test_each_is_refused_and_changes_nothing(self):
        desk = desk_with(["kind ring 5", "tie 0 2"])
        before = [outcome(desk.say, row) for row in questions_of(5)]
        for thing in WRONG_ROWS + NEVER + [("ties",), ["ties"], {"ties": "ties"}, 0, ("tie", 0, 3), ["tie", "0", "3"]]:
            self.assertEqual(fields_of(desk.say, thing), NO_LINE, thing)
            self.assertEqual(desk.say("shown"), "web 5 6 ; tie 0 1 ; tie 0 2 ; tie 0 4 ; tie 1 2 ; tie 2 3 ; tie 3 4")
        self.assertEqual([outcome(desk.say, row) for row in questions_of(5)], before)
        self.assertEqual([desk.say("back"), desk.say("back")], ["ok", "ok"])
        self.assertEqual(fields_of(desk.say, "back"), NO_LINE)

    def test_another_number_of_words(self):
        for word, many in NUMBERS.items():
            for other in range(6):
                if other != many:
                    desk = desk_with(["kind full 6"])
                    row = " ".join([word] + [str(number) for number in range(other)])
                    self.assertEqual(fields_of(desk.say, row), NO_LINE, row)

    def test_words_that_are_no_numbers(self):
        wrong = ["", "x", "00", "01", "+1", "-1", "1.0", "1_0", "1e0", "0x1", "one", "None", "True", "1\n", "\n1", "1,", "(1)",
                 "1" * 21, "0" * 20, "~", "1;"]
        for word, many in list(NUMBERS.items()) + [("kind ring", 1), ("kind two", 2), ("kind spokes", 2)]:
            for at, thing in itertools.product(range(many), wrong):
                words = [word] + ["1"] * many
                words[at + 1] = thing
                desk = desk_with(["kind full 6"])
                self.assertEqual(fields_of(desk.say, " ".join(words)), NO_LINE, words)
                self.assertEqual(desk.say("even"), "5")

    def test_no_line_ahead_of_all_else(self):
        desk = desk_with(["kind ring 4"])
        for row in ["near 9 9", "near 9x", "tie 9 x", "tie x 9", "tie 9 9 9", "cross 9 9 9 x", "cut 9", "fresh 17 1", "fresh 00",
                    "fresh 17\n", "lacks 99 0", "lacks 099", "fits 0 x", "fits 99 03", "least 0 3 3", "far 9 09", "by 9 -0",
                    "layers 9 0", "at 9\n", "fresh 0 "]:
            self.assertEqual(fields_of(desk.say, row), NO_LINE, row)


class Over(unittest.TestCase):
    """[10.4]: what a desk answers hangs on the deeds that stand alone."""

    def test_as_by_the_plain_desk(self):
        chance = random.Random(11)
        seen = {}
        for turn in range(12):
            desk, plain = Desk(), PlainDesk()
            for row in ["fresh 6", "kind cube 3", "kind ladder 4"][:turn % 4]:
                self.assertEqual(desk.say(row), plain.say(row))
            for step in range(150):
                row = some_row(chance, plain.deeds[-1][0])
                answer = outcome(desk.say, row)
                self.assertEqual(answer, plain.say(row), row)
                seen[str(answer)] = seen.get(str(answer), 0) + 1
        for due in ("ok", "none", str(NO_PLACE), str(NO_LINE), str(NO_NUMBER), str(NO_WEB)):
            self.assertGreater(seen[due], 3, due)

    def test_the_deeds_that_stand_alone(self):
        chance = random.Random(12)
        for turn in range(15):
            desk = Desk()
            standing = []
            for step in range(60):
                many = int(desk.say("shown").split(" ")[1])
                row = some_row(chance, many)
                if outcome(desk.say, row) == "ok":
                    standing = standing[:-1] if row == "back" else standing + [row]
            other = desk_with(standing)
            while True:
                many = int(desk.say("shown").split(" ")[1])
                for row in questions_of(many)[::3] + BARE:
                    self.assertEqual(outcome(desk.say, row), outcome(other.say, row), (standing, row))
                undone = [outcome(each.say, "back") for each in (desk, other)]
                self.assertEqual(undone, ["ok", "ok"] if standing else [NO_LINE, NO_LINE])
                if not standing:
                    break
                standing = standing[:-1]

    def test_two_desks_have_nothing_in_common(self):
        one, other = Desk(), Desk()
        for row in ["fresh 4", "tie 0 1", "tie 2 3"]:
            one.say(row)
        self.assertEqual(other.say("shown"), "web 1 0")
        self.assertEqual(fields_of(other.say, "back"), NO_LINE)
        self.assertEqual(other.say("kind ring 3"), "ok")
        self.assertEqual(one.say("ties"), "0-1 2-3")
        self.assertEqual(one.say("back"), "ok")
        self.assertEqual(other.say("ties"), "0-1 0-2 1-2")
        self.assertEqual(Desk().say("shown"), "web 1 0")

    def test_questions_are_no_deeds(self):
        desk = desk_with(["fresh 3", "tie 0 2"])
        for row in questions_of(3):
            outcome(desk.say, row)
        self.assertEqual(desk.say("back"), "ok")
        self.assertEqual(desk.say("ties"), "none")

    def test_many_deeds(self):
        desk = desk_with(["fresh 16"])
        for turn in range(300):
            self.assertEqual(desk.say("tie 3 15"), "ok")
            self.assertEqual(desk.say("cut 15 3"), "ok")
        for turn in range(601):
            self.assertEqual(desk.say("back"), "ok")
        self.assertEqual(fields_of(desk.say, "back"), NO_LINE)
        self.assertEqual(desk_with(rows_for(row_web(16))).say("even"), "none")


if __name__ == "__main__":
    unittest.main()
