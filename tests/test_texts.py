"""[10.1]: webs written as texts."""

import re
import unittest

from noshortring.texts import web_read, web_shown
from tests.helper import (LINES, NEVER, PETERSEN, SEVERAL, even_webs, fields_of, full_web, known_webs, made, outcome,
                          ring_web, row_web, small_webs)

NUMBER = "(0|[1-9][0-9]{0,19})"
HEAD = re.compile(f"web {NUMBER} {NUMBER}")
TIE = re.compile(f"tie {NUMBER} {NUMBER}")


def refused(row):
    return ("NoText", {"row": row})


def plain_shown(web):
    return "\n".join(["web " + str(web[0]) + " " + str(len(web[1]))] + ["tie " + str(a) + " " + str(b) for a, b in web[1]])


def plain_read(text):
    """The web that a text writes, or the refusal, row by row as the words of 10.1 tell."""
    rows = text.split("\n")
    head = HEAD.fullmatch(rows[0])
    if not head or not 1 <= int(head[1]) <= 16:
        return refused(1)
    many, due = int(head[1]), int(head[2])
    ties = []
    for number, row in enumerate(rows[1:], start=2):
        found = TIE.fullmatch(row)
        if not found or number - 1 > due:
            return refused(number)
        tie = (int(found[1]), int(found[2]))
        if not tie[0] < tie[1] < many or (ties and tie <= ties[-1]):
            return refused(number)
        ties.append(tie)
    return (many, tuple(ties)) if len(ties) == due else refused(len(rows) + 1)


def word_changes(word):
    """The word otherwise: with more or fewer signs, with other ones, with other numbers."""
    changed = ["", "-" + word, "+" + word, "0" + word, "00" + word, word + "0", word + ".0", word + " ", " " + word,
               word + "_0", word.upper(), word[:-1], word + word, "0x" + word, word + "e0", '"' + word + '"', "None", "True",
               "~", "!", "tie", "web", "ties", "a", "0", "1", "16", "17", "9" * 20, "1" + "0" * 19, "1" + "0" * 20, "9" * 40]
    if word.isdigit():
        changed += [str(int(word) + 1), str(int(word) - 1), word.rjust(20, "0"), word.rjust(21, "0")]
    return changed


def row_changes(row):
    """The row with one thing otherwise."""
    yield from ["", " ", row + " ", " " + row, row.replace(" ", "  ", 1), row.replace(" ", "", 1), row + " 0", row + " 3 4",
                row + ",", row + ";", row.replace(" ", ","), row.replace(" ", "-"), row.replace(" ", "\n", 1)]
    words = row.split(" ")
    for at, word in enumerate(words):
        yield " ".join(words[:at] + words[at + 1:])
        yield " ".join(words[:at] + [word] + words[at:])
        for other in word_changes(word):
            yield " ".join(words[:at] + [other] + words[at + 1:])
    if len(words) == 3:
        yield " ".join([words[0], words[2], words[1]])
        yield " ".join([words[1], words[0], words[2]])


def text_changes(text):
    """The text with one thing otherwise at any row."""
    rows = text.split("\n")
    for at, row in enumerate(rows):
        yield "\n".join(rows[:at] + rows[at + 1:])
        yield "\n".join(rows[:at] + [row] + rows[at:])
        yield "\n".join(rows[:at] + rows[at + 1:] + [row])
        yield "\n".join(rows[:at] + [""] + rows[at:])
        yield "\n".join(rows[:at] + rows[at:at + 2][::-1] + rows[at + 2:])
        for other in row_changes(row):
            yield "\n".join(rows[:at] + [other] + rows[at + 1:])
    for ahead, behind in [("\n", ""), ("", "\n"), (" ", ""), ("", " "), ("", "\n\n"), ("", "\ntie 0 1"), ("", "\ntie 14 15"),
                          ("web 1 0\n", ""), ("", "\nweb 1 0"), ("", "\ntie 15 16")]:
        yield ahead + text + behind


SOME = [(1, ()), (2, ((0, 1),)), (16, ()), ring_web(4), full_web(5), made(16, [(0, 15), (9, 10), (14, 15)]), row_web(12)]


class Shown(unittest.TestCase):
    def test_webs_of_all_sizes(self):
        for web in list(small_webs(4)) + known_webs() + even_webs():
            text = web_shown(web)
            self.assertIs(type(text), str)
            self.assertEqual(text, plain_shown(web))

    def test_by_hand(self):
        for web, text in [((1, ()), "web 1 0"), ((16, ()), "web 16 0"), ((2, ((0, 1),)), "web 2 1\ntie 0 1"),
                          ((16, ((0, 15), (9, 10))), "web 16 2\ntie 0 15\ntie 9 10"),
                          (ring_web(3), "web 3 3\ntie 0 1\ntie 0 2\ntie 1 2")]:
            self.assertEqual(web_shown(web), text)
            self.assertEqual(web_read(text), web)
        self.assertEqual(web_shown(full_web(16)).count("\n"), 120)

    def test_there_and_back(self):
        for web in list(small_webs(5))[::3] + known_webs() + even_webs() + [SEVERAL, LINES, PETERSEN]:
            told = web_read(web_shown(web))
            self.assertEqual(told, web)
            self.assertEqual([type(told), type(told[0]), type(told[1])], [tuple, int, tuple])
            self.assertTrue(all(type(tie) is tuple for tie in told[1]))
            self.assertEqual(web_shown(told), web_shown(web))


class Read(unittest.TestCase):
    def test_one_thing_otherwise(self):
        seen = {}
        for web in SOME:
            text = plain_shown(web)
            for other in text_changes(text):
                due = plain_read(other)
                self.assertEqual(outcome(web_read, other), due, other)
                seen[due == web] = seen.get(due == web, 0) + 1
        self.assertGreater(seen[False], 3000)

    def test_what_is_read_is_shown_so(self):
        for web in SOME:
            for other in text_changes(plain_shown(web)):
                if fields_of(web_read, other) is None:
                    self.assertEqual(web_shown(web_read(other)), other)

    def test_the_row_that_is_told(self):
        good = "web 4 3\ntie 0 1\ntie 0 3\ntie 2 3"
        self.assertEqual(web_read(good), (4, ((0, 1), (0, 3), (2, 3))))
        for text, row in [
                ("", 1), ("\n", 1), (" ", 1), ("\nweb 1 0", 1), (" web 1 0", 1), ("web 1 0 ", 1), ("web  1 0", 1), ("web 1", 1),
                ("web", 1), ("web 1 0 0", 1), ("Web 1 0", 1), ("webs 1 0", 1), ("web 0 0", 1), ("web 17 0", 1), ("web 01 0", 1),
                ("web 1 00", 1), ("web -1 0", 1), ("web +1 0", 1), ("web 1 -0", 1), ("web 1 +0", 1), ("web one 0", 1),
                ("web 1 x", 1), ("web 1. 0", 1), ("web 1_0 0", 1), ("tie 0 1", 1), ("web 1 " + "1" * 21, 1),
                ("web " + "1" * 20 + " 0", 1), ("web " + "1" * 21 + " 0", 1), ("web 0 0\nrubbish", 1),
                ("web 1 0\n", 2), ("web 1 0\n\n", 2), ("web 2 1", 2), ("web 1 1", 2), ("web 3 " + "9" * 20, 2),
                ("web 2 0\ntie 0 1", 2), ("web 2 1\n", 2), ("web 2 1\ntie 1 0", 2), ("web 2 1\ntie 0 0", 2),
                ("web 2 1\ntie 0 2", 2), ("web 2 1\ntie 0 01", 2), ("web 2 1\ntie 00 1", 2), ("web 2 1\ntie -0 1", 2),
                ("web 2 1\ntie 0 1 ", 2), ("web 2 1\n tie 0 1", 2), ("web 2 1\ntie 0  1", 2), ("web 2 1\ntie 0", 2),
                ("web 2 1\ntie 0 1 1", 2), ("web 2 1\nTie 0 1", 2), ("web 2 1\nweb 0 1", 2), ("web 2 1\n0 1", 2),
                ("web 2 1\ntie 0 1\n", 3), ("web 2 1\ntie 0 1\ntie 0 1", 3), ("web 3 1\ntie 0 1\ntie 0 2", 3),
                ("web 3 2\ntie 0 1", 3), ("web 3 2\ntie 0 1\ntie 0 1", 3), ("web 3 2\ntie 0 2\ntie 0 1", 3),
                ("web 3 2\ntie 1 2\ntie 0 1", 3), ("web 3 3\ntie 0 1\n\ntie 0 2\ntie 1 2", 3), (good + "\n", 5),
                (good + "\ntie 1 2", 5), (good.replace("web 4 3", "web 4 4"), 5), (good.replace("web 4 3", "web 4 2"), 4),
                (good.replace("web 4", "web 3"), 3), (good.replace("tie 0 3", "tie 0 4"), 3), ("web 2 2\ntie 0 1\nx", 3)]:
            self.assertEqual(fields_of(web_read, text), refused(row), text)

    def test_twenty_figures(self):
        self.assertEqual(fields_of(web_read, "web 2 " + "1" * 20), refused(2))
        self.assertEqual(fields_of(web_read, "web 2 " + "1" * 20 + "\ntie 0 1"), refused(3))
        self.assertEqual(fields_of(web_read, "web 2 " + "1" * 21 + "\ntie 0 1"), refused(1))
        self.assertEqual(fields_of(web_read, "web 2 1\ntie 0 " + "1" * 20), refused(2))
        self.assertEqual(fields_of(web_read, "web 2 1\ntie 0 " + "1" * 40), refused(2))

    def test_no_text_at_all(self):
        for thing in NEVER + [(), ("web 1 0",), ["web 1 0"], {"web 1 0": "web 1 0"}, 1, (1, ()), ring_web(3)]:
            due = refused(1) if isinstance(thing, str) else refused(0)
            self.assertEqual(fields_of(web_read, thing), due, thing)

    def test_long_texts(self):
        for text in ["x" * 2000, "\n" * 2000, " " * 2000, "web 16 120\n" + "tie 0 1\n" * 200, "9" * 2000]:
            self.assertEqual(outcome(web_read, text[:2000]), plain_read(text[:2000]))
        whole = web_shown(full_web(16))
        self.assertLess(len(whole), 2000)
        self.assertEqual(web_read(whole), full_web(16))
        for cut in range(len(whole)):
            self.assertEqual(outcome(web_read, whole[:cut]), plain_read(whole[:cut]))


if __name__ == "__main__":
    unittest.main()
