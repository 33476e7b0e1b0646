"""Webs bettered by exchanges of ties, and webs with two places more or fewer."""

from noshortring.errors import NoLine, NoWeb, TooGreat
from noshortring.webs import MOST_PLACES, are_tied, near_of, need_place, shortest, shortest_many, ties_of, web_good

MOST_TO_CROSS = 8


def need_places(web, things):
    """Refuses where one of the things is no place of the web."""
    for thing in things:
        need_place(web, thing)


def retied(web, cut, tied):
    """The web with a list of pairs tied no more, then a list of pairs tied."""
    out = ties_of(cut)
    return (web[0], ties_of([tie for tie in web[1] if tie not in out] + tied))


def can_cross(web, a, b, c, e):
    """Whether four places are unlike, tied by twos, and not yet tied as they are to be."""
    if len(set([a, b, c, e])) != 4 or not are_tied(web, a, b) or not are_tied(web, c, e):
        return False
    return not are_tied(web, a, c) and not are_tied(web, b, e)


def exchanged(web, a, b, c, e):
    """The web crossed by four places that are known to be such."""
    return retied(web, [(a, b), (c, e)], [(a, c), (b, e)])


def crossed(web, a, b, c, e):
    """The web with a tied to c and b to e, instead of a to b and c to e."""
    need_places(web, [a, b, c, e])
    if not can_cross(web, a, b, c, e):
        raise NoLine()
    return exchanged(web, a, b, c, e)


def spliced(web, a, b, c, e):
    """The web with a new place amid each of two ties, and these two places tied."""
    need_places(web, [a, b, c, e])
    if not are_tied(web, a, b) or not are_tied(web, c, e) or ties_of([(a, b)]) == ties_of([(c, e)]):
        raise NoLine()
    x = web[0]
    y = x + 1
    if y + 1 > MOST_PLACES:
        raise TooGreat(y + 1, MOST_PLACES)
    return retied((y + 1, web[1]), [(a, b), (c, e)], [(x, a), (x, b), (y, c), (y, e), (x, y)])


def others_near(web, place, other):
    """The rising tuple of the places tied to a place but the other one."""
    return tuple([near for near in near_of(web, place) if near != other])


def can_unsplice(web, x, y):
    """Whether two places can be taken out, and the two others near each of them tied."""
    pairs = [others_near(web, x, y), others_near(web, y, x)]
    if not are_tied(web, x, y) or any([len(pair) != 2 for pair in pairs]) or pairs[0] == pairs[1]:
        return False
    return not any([are_tied(web, a, b) for a, b in pairs])


def unspliced(web, x, y):
    """The web without two tied places, the two others near each of them tied instead."""
    need_places(web, [x, y])
    if not can_unsplice(web, x, y):
        raise NoLine()
    kept = [place for place in range(web[0]) if place not in (x, y)]
    pairs = [(a, b) for a, b in web[1] if a in kept and b in kept]
    pairs = pairs + [others_near(web, x, y), others_near(web, y, x)]
    return (len(kept), ties_of([(kept.index(a), kept.index(b)) for a, b in pairs]))


def merit_of(web):
    """What webs of as many places are compared by: that of the better one is greater."""
    size = shortest(web)
    # A web without rings is better than any with one.
    return (MOST_PLACES + 1 if size is None else size, -shortest_many(web))


def is_better(one, other):
    """Whether the first of two webs of as many places is better than the second."""
    if not web_good(one) or not web_good(other) or one[0] != other[0]:
        raise NoWeb(-1)
    return merit_of(one) > merit_of(other)


def need_few_to_cross(web):
    """Refuses a web of too many places."""
    if web[0] > MOST_TO_CROSS:
        raise TooGreat(web[0], MOST_TO_CROSS)


def all_crossings(web):
    """The rising list of all tuples of four places to cross by, the first one the least."""
    found = []
    for a, b in web[1]:
        for c in range(a + 1, web[0]):
            found.extend([(a, b, c, e) for e in range(a + 1, web[0]) if can_cross(web, a, b, c, e)])
    return found


def first_better(web):
    """The tuple of the first crossing that betters the web and of the better web, None where there is none."""
    merit = merit_of(web)
    for a, b, c, e in all_crossings(web):
        other = exchanged(web, a, b, c, e)
        if merit_of(other) > merit:
            return ((a, b, c, e), other)
    return None


def crossings_of(web):
    """The rising list of all tuples by which a web of few places can be crossed, the least place first."""
    need_few_to_cross(web)
    return all_crossings(web)


def better_crossing(web):
    """The first crossing by which a web of few places is bettered, None where there is none."""
    need_few_to_cross(web)
    found = first_better(web)
    return None if found is None else found[0]


def climbed(web):
    """The list of webs, from a web of few places on, each by the first better crossing of the one ahead."""
    need_few_to_cross(web)
    webs = [web]
    found = first_better(web)
    while found is not None:
        webs.append(found[1])
        found = first_better(found[1])
    return webs
