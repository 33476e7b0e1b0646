"""A desk keeps a web, is told rows, deeds and questions, and answers each with a text."""

from noshortring.betterings import crossed, need_places, retied
from noshortring.errors import NoLine, NoWeb
from noshortring.fewest import fits, least_fit
from noshortring.growth import layers_of, need_tie, ring_at, ring_by
from noshortring.kinds import web_by
from noshortring.papers import lacks
from noshortring.texts import number_in, web_shown
from noshortring.webs import (MOST_PLACES, are_tied, even_by, far_of, first_ring, near_of, pieces_of, shortest,
                              shortest_many)


def told(thing):
    """A number or a text as it stands in an answer, none for None."""
    return "none" if thing is None else str(thing)


def row_told(things):
    """The things with a blank between each two, none where there are none."""
    return " ".join([told(thing) for thing in things]) if things else "none"


def places_told(places):
    """The places with a sign between each two."""
    return "-".join([told(place) for place in places])


def fresh_web(web, numbers):
    """A web of so many places without ties."""
    if not 1 <= numbers[0] <= MOST_PLACES:
        raise NoWeb(-1)
    return (numbers[0], ())


def tied_web(web, numbers):
    """The web with two places tied."""
    need_places(web, numbers)
    if numbers[0] == numbers[1] or are_tied(web, numbers[0], numbers[1]):
        raise NoLine()
    return retied(web, [], [numbers])


def cut_web(web, numbers):
    """The web with two places tied no more."""
    need_tie(web, numbers[0], numbers[1])
    return retied(web, [numbers], [])


def crossed_web(web, numbers):
    """The web crossed by four places."""
    return crossed(web, numbers[0], numbers[1], numbers[2], numbers[3])


def kind_web(words):
    """The web of the kind of a word and the numbers behind it."""
    return web_by(tuple(words[:1]) + numbers_of(words[1:]))


def ties_told(web, numbers):
    """The ties of the web."""
    return row_told([places_told(tie) for tie in web[1]])


def near_told(web, numbers):
    """The places tied to a place."""
    return row_told(near_of(web, numbers[0]))


def far_told(web, numbers):
    """How far two places are from one another."""
    return told(far_of(web, numbers[0], numbers[1]))


def ring_told(web, numbers):
    """How many places the shortest ring has."""
    return told(shortest(web))


def rings_told(web, numbers):
    """How many shortest rings there are."""
    return told(shortest_many(web))


def first_told(web, numbers):
    """The first of the shortest rings."""
    ring = first_ring(web)
    return told(None) if ring is None else places_told(ring)


def even_told(web, numbers):
    """How many ties each place has."""
    return told(even_by(web))


def pieces_told(web, numbers):
    """The pieces of the web."""
    return row_told([places_told(piece) for piece in pieces_of(web)])


def layers_told(web, numbers):
    """How many places each layer around a place has."""
    return row_told([len(layer) for layer in layers_of(web, numbers[0])])


def at_told(web, numbers):
    """How many places the shortest ring through a place has."""
    return told(ring_at(web, numbers[0]))


def by_told(web, numbers):
    """How many places the shortest ring with two tied places side by side has."""
    return told(ring_by(web, numbers[0], numbers[1]))


def lacks_told(web, numbers):
    """How many ties the places lack together."""
    return told(lacks(web, numbers[0]))


def fits_told(web, numbers):
    """Whether the web fits two numbers."""
    return "yes" if fits(web, numbers[0], numbers[1]) else "no"


def fewest_told(web, numbers):
    """The least number of places that may fit two numbers."""
    return told(least_fit(numbers[0], numbers[1]))


def shown_told(web, numbers):
    """The text of the web, in one row."""
    return web_shown(web).replace("\n", " ; ")


# By the first word and how many numbers stand behind it: the web that a deed makes, the answer to a question.
DEEDS = {("fresh", 1): fresh_web, ("tie", 2): tied_web, ("cut", 2): cut_web, ("cross", 4): crossed_web}
QUESTIONS = {("ties", 0): ties_told, ("near", 1): near_told, ("far", 2): far_told, ("ring", 0): ring_told,
             ("rings", 0): rings_told, ("first", 0): first_told, ("even", 0): even_told, ("pieces", 0): pieces_told,
             ("layers", 1): layers_told, ("at", 1): at_told, ("by", 2): by_told, ("lacks", 1): lacks_told,
             ("fits", 2): fits_told, ("least", 2): fewest_told, ("shown", 0): shown_told}


def words_of(row):
    """The list of the words of a row; refuses what is no text."""
    if not isinstance(row, str):
        raise NoLine()
    return row.split(" ")


def numbers_of(words):
    """The tuple of the numbers that the words write; refuses a word that writes none."""
    numbers = tuple([number_in(word) for word in words])
    if any([number is None for number in numbers]):
        raise NoLine()
    return numbers


class Desk:
    """Keeps the webs behind each deed that stands, that of one place first."""

    def __init__(self):
        self.webs = [(1, ())]

    def say(self, row):
        """The answer to a row."""
        words = words_of(row)
        web = self.webs[-1]
        if words == ["back"]:
            if len(self.webs) == 1:
                raise NoLine()
            self.webs.pop()
            return "ok"
        if words[0] == "kind":
            self.webs.append(kind_web(words[1:]))
            return "ok"
        numbers = numbers_of(words[1:])
        asked = (words[0], len(numbers))
        if asked in DEEDS:
            self.webs.append(DEEDS[asked](web, numbers))
            return "ok"
        if asked in QUESTIONS:
            return QUESTIONS[asked](web, numbers)
        raise NoLine()
