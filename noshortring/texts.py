"""Webs written as texts, and read from them."""

from noshortring.common import is_whole
from noshortring.errors import NoText
from noshortring.webs import MOST_PLACES

FIGURES = "0123456789"
MOST_FIGURES = 20


def number_in(word):
    """The number that a word writes, None where it is not so written."""
    if not 1 <= len(word) <= MOST_FIGURES or not all([sign in FIGURES for sign in word]):
        return None
    if word[0] == "0" and word != "0":
        return None
    return int(word)


def numbers_behind(row, word, many):
    """The tuple of so many numbers behind a word in a row, None where it is not so written."""
    words = row.split(" ")
    numbers = tuple([number_in(each) for each in words[1:]])
    if words[0] != word or len(numbers) != many or any([number is None for number in numbers]):
        return None
    return numbers


def web_shown(web):
    """The text of a web."""
    many = web[0]
    ties = len(web[1])
    rows = [f"web {many} {ties}"] + [f"tie {a} {b}" for a, b in web[1]]
    return "\n".join(rows)


def goes_on(many, ties, tie):
    """Whether the tie is one of so many places, the lesser one ahead, and greater than those ahead of it."""
    if not tie[0] < tie[1] < many:
        return False
    return not ties or ties[-1] < tie


def web_read(text):
    """The web that a text writes."""
    if not isinstance(text, str):
        raise NoText(0)
    rows = text.split("\n")
    head = numbers_behind(rows[0], "web", 2)
    if head is None or not is_whole(head[0], 1, MOST_PLACES):
        raise NoText(1)
    ties = []
    for number, row in enumerate(rows[1:], start=2):
        tie = numbers_behind(row, "tie", 2)
        if tie is None or len(ties) == head[1] or not goes_on(head[0], ties, tie):
            raise NoText(number)
        ties.append(tie)
    if len(ties) < head[1]:
        raise NoText(len(rows) + 1)
    return (head[0], tuple(ties))
