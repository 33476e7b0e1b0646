"""Webs of well-known kinds."""

from noshortring.common import is_whole
from noshortring.errors import NoLine
from noshortring.fewest import does_fit, need_any_ties_and_ring
from noshortring.webs import MOST_PLACES, even_by, shortest, ties_of

# The words of the kinds of one number, with its least and its greatest.
OF_ONE_NUMBER = (("cube", 0, 4), ("full", 1, 16), ("ladder", 3, 8), ("lines", 7, 7), ("ring", 3, 16), ("twisted", 2, 8))
LEAST_SPOKES = 3
MOST_SPOKES = 8


def all_kinds():
    """The rising list of all kinds."""
    kinds = []
    for word, least, most in OF_ONE_NUMBER:
        kinds.extend([(word, n) for n in range(least, most + 1)])
    for n in range(LEAST_SPOKES, MOST_SPOKES + 1):
        kinds.extend([("spokes", n, k) for k in range(1, n) if k * 2 < n])
    for a in range(1, MOST_PLACES):
        kinds.extend([("two", a, b) for b in range(1, MOST_PLACES - a + 1)])
    return sorted(kinds)


def kind_good(thing):
    """Whether the thing is a kind."""
    if not isinstance(thing, tuple):
        return False
    # A truth would compare like a number.
    return all([is_whole(number, 0, MOST_PLACES) for number in thing[1:]]) and thing in all_kinds()


def need_kind(thing):
    """Refuses what is no kind."""
    if not kind_good(thing):
        raise NoLine()


def cube_pairs(k):
    """The pairs of places that differ by one nought or one."""
    pairs = []
    for bit in range(k):
        pairs.extend([(place, place ^ (1 << bit)) for place in range(1 << k)])
    return pairs


def two_pairs(a, b):
    """The pairs of one of the first a places and one of the b places behind them."""
    pairs = []
    for place in range(a):
        pairs.extend([(place, a + other) for other in range(b)])
    return pairs


def full_pairs(n):
    """The pairs of any two of n places."""
    pairs = []
    for place in range(n):
        pairs.extend([(other, place) for other in range(place)])
    return pairs


def ring_pairs(n):
    """The pairs of places side by side in a ring."""
    return [(place, (place + 1) % n) for place in range(n)]


def across_pairs(n):
    """The pairs of each of the first n places and the one n more."""
    return [(place, n + place) for place in range(n)]


def spokes_pairs(n, k):
    """The pairs of a ring, of n places more each tied to the one k on, and of each place and the one n more."""
    return ring_pairs(n) + [(n + place, n + (place + k) % n) for place in range(n)] + across_pairs(n)


def lines_pairs(n):
    """The pairs of each of n lines, behind the places, and of its three places."""
    pairs = []
    for step in (0, 1, 3):
        pairs.extend([(n + line, (line + step) % n) for line in range(n)])
    return pairs


def places_and_pairs(kind):
    """The tuple of how many places the web of a kind has, and of the list of its tied pairs."""
    word = kind[0]
    n = kind[1]
    if word == "cube":
        return (1 << n, cube_pairs(n))
    if word == "full":
        return (n, full_pairs(n))
    if word == "ladder":
        return (n * 2, spokes_pairs(n, 1))
    if word == "lines":
        return (n * 2, lines_pairs(n))
    if word == "ring":
        return (n, ring_pairs(n))
    if word == "spokes":
        return (n * 2, spokes_pairs(n, kind[2]))
    if word == "twisted":
        return (n * 2, ring_pairs(n * 2) + across_pairs(n))
    return (n + kind[2], two_pairs(n, kind[2]))


def web_of_kind(kind):
    """The web of what is known to be a kind."""
    told = places_and_pairs(kind)
    return (told[0], ties_of(told[1]))


def web_by(kind):
    """The web of a kind."""
    need_kind(kind)
    return web_of_kind(kind)


def kind_counts(kind):
    """The tuple of how many places and how many ties the web of a kind has."""
    web = web_by(kind)
    return (web[0], len(web[1]))


def kind_even(kind):
    """How many ties each place of the web of a kind has, None where these are not as many."""
    return even_by(web_by(kind))


def kind_ring(kind):
    """How many places the shortest ring of the web of a kind has, None where there is none."""
    return shortest(web_by(kind))


def kinds_fit_by(d, g):
    """The rising list of all kinds whose web fits d and g."""
    need_any_ties_and_ring(d, g)
    return [kind for kind in all_kinds() if does_fit(web_of_kind(kind), d, g)]


def kind_of(web):
    """The first kind whose web it is, None where there is none."""
    for kind in all_kinds():
        if web_of_kind(kind) == web:
            return kind
    return None
