"""Webs, the ways in them, and their rings."""

from noshortring.common import is_rising, is_whole, least_told, need_number
from noshortring.errors import NoPlace, NoWeb

MOST_PLACES = 16
LEAST_RING = 3


def web_good(thing):
    """Whether the thing is a web: a tuple (many, ties)."""
    if not isinstance(thing, tuple) or len(thing) != 2:
        return False
    return is_whole(thing[0], 1, MOST_PLACES) and ties_good(thing[0], thing[1])


def ties_good(many, thing):
    """Whether the thing is a rising tuple of pairs of places, the lesser one ahead."""
    if not isinstance(thing, tuple) or not all([is_pair(many, tie) for tie in thing]):
        return False
    return all([a < b for a, b in thing]) and is_rising(thing)


def is_pair(many, thing):
    """Whether the thing is a tuple of two unlike places out of so many."""
    if not isinstance(thing, tuple) or len(thing) != 2:
        return False
    return all([is_whole(end, 0, many - 1) for end in thing]) and thing[0] != thing[1]


def web_of(many, things):
    """The web of so many places with the pairs of the list as its ties."""
    if not is_whole(many, 1, MOST_PLACES):
        raise NoWeb(-1)
    for number, thing in enumerate(things):
        if not is_pair(many, thing):
            raise NoWeb(number)
    return (many, ties_of(things))


def ties_of(pairs):
    """The rising tuple of the pairs, each once and with its lesser end ahead."""
    return tuple(sorted(set([(min(a, b), max(a, b)) for a, b in pairs])))


def is_place(web, thing):
    """Whether the thing is a place of the web."""
    return is_whole(thing, 0, web[0] - 1)


def need_place(web, thing):
    """Refuses what is no place of the web."""
    if not is_place(web, thing):
        raise NoPlace()


def are_tied(web, a, b):
    """Whether two places are tied."""
    return (min(a, b), max(a, b)) in web[1]


def nears_of(web):
    """At each place, the rising list of the places tied to it."""
    nears = [[] for place in range(web[0])]
    # The ties rise, so each list gets its lesser places first, then its greater ones.
    for a, b in web[1]:
        nears[a].append(b)
        nears[b].append(a)
    return nears


def near_of(web, place):
    """The rising tuple of the places tied to a place."""
    need_place(web, place)
    return tuple(nears_of(web)[place])


def fars_from(nears, starts):
    """At each place, how many ties the nearest start is away, None where there is no way."""
    fars = [None for near in nears]
    for start in starts:
        fars[start] = 0
    border = starts
    steps = 0
    while border:
        steps += 1
        beyond = []
        for place in border:
            for near in nears[place]:
                if fars[near] is None:
                    fars[near] = steps
                    beyond.append(near)
        border = beyond
    return fars


def far_of(web, one, other):
    """How many ties the least way between two places has, None where there is none."""
    need_place(web, one)
    need_place(web, other)
    return fars_from(nears_of(web), [one])[other]


def pieces_of(web):
    """The list, by their least places, of the rising tuples of places with ways between them."""
    nears = nears_of(web)
    pieces = []
    for place in range(web[0]):
        if not any([place in piece for piece in pieces]):
            fars = fars_from(nears, [place])
            pieces.append(tuple([other for other, far in enumerate(fars) if far is not None]))
    return pieces


def even_by(web):
    """How many ties each place has, None where not all have as many."""
    counts = [len(near) for near in nears_of(web)]
    return counts[0] if min(counts) == max(counts) else None


def is_even_by(web, number):
    """Whether each place has just so many ties."""
    need_number(number, 0, MOST_PLACES - 1)
    return even_by(web) == number


def ring_good(web, thing):
    """Whether the thing is a ring of the web."""
    if not isinstance(thing, tuple) or len(thing) < LEAST_RING:
        return False
    if not all([is_place(web, place) for place in thing]) or len(set(thing)) != len(thing):
        return False
    return all([are_tied(web, a, b) for a, b in zip(thing, thing[1:] + thing[:1])])


def ring_by_tie(nears, a, b):
    """How many places the shortest ring with this tie in it has, None where there is none."""
    # A least way from a never comes back to a, so the tie need be cut at that end alone.
    cut = list(nears)
    cut[a] = [near for near in nears[a] if near != b]
    far = fars_from(cut, [a])[b]
    return None if far is None else far + 1


def shortest(web):
    """How many places the shortest ring has, None of a web without rings."""
    nears = nears_of(web)
    return least_told([ring_by_tie(nears, a, b) for a, b in web[1]])


def shortest_rings_from(nears, start, size):
    """The rising list of the rings that begin at a place, size being that of the shortest ring."""
    # The places of a shortest ring are as far from its start in the web as along the ring. Only rows
    # of such places are kept: these are few, since a place less than half a ring away has one way to it.
    fars = fars_from(nears, [start])
    rows = [(start,)]
    for steps in range(1, size):
        rows = rows_longer(nears, fars, rows, min(steps, size - steps))
    return rows


def rows_longer(nears, fars, rows, far):
    """The rows with one tied place more that is so far from the start, in their order."""
    longer = []
    for row in rows:
        for near in nears[row[-1]]:
            if fars[near] == far and near not in row:
                longer.append(row + (near,))
    return longer


def first_ring(web):
    """The first of the shortest rings, as tuples compare, None of a web without rings."""
    size = shortest(web)
    if size is None:
        return None
    nears = nears_of(web)
    for start in range(web[0]):
        rings = shortest_rings_from(nears, start, size)
        if rings:
            return rings[0]
    return None


def shortest_many(web):
    """How many shortest rings there are, whatever their beginning and the way about."""
    size = shortest(web)
    if size is None:
        return 0
    nears = nears_of(web)
    # Each ring is met from each of its places, and both ways about.
    return sum([len(shortest_rings_from(nears, start, size)) for start in range(web[0])]) // (2 * size)


def renamed(web, names):
    """The web in which each place has the number that stands at its place in names."""
    if not isinstance(names, tuple) or not all([is_place(web, name) for name in names]):
        raise NoPlace()
    if sorted(names) != list(range(web[0])):
        raise NoPlace()
    return (web[0], ties_of([(names[a], names[b]) for a, b in web[1]]))
