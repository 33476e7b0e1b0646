"""Growing from a place or from a tie, layer by layer."""

from noshortring.common import least_told, need_number
from noshortring.errors import NoLine, NotEven
from noshortring.fewest import MOST_RING, least_by_growth, need_ties
from noshortring.webs import LEAST_RING, MOST_PLACES, are_tied, even_by, fars_from, nears_of, need_place, ring_by_tie


def need_tie(web, a, b):
    """Refuses what is no place, then two places that are not tied."""
    need_place(web, a)
    need_place(web, b)
    if not are_tied(web, a, b):
        raise NoLine()


def layers_from(web, starts):
    """The list, at i, of the rising tuples of the places i ties far from the nearest start."""
    fars = fars_from(nears_of(web), starts)
    deepest = max([far for far in fars if far is not None])
    return [places_so_far(fars, far) for far in range(deepest + 1)]


def places_so_far(fars, far):
    """The rising tuple of the places that are just so far."""
    return tuple([place for place, found in enumerate(fars) if found == far])


def layers_of(web, place):
    """The layers of places around a place."""
    need_place(web, place)
    return layers_from(web, [place])


def layers_by_tie(web, a, b):
    """The layers of places around two tied places."""
    need_tie(web, a, b)
    return layers_from(web, [a, b])


def ring_at(web, place):
    """How many places the shortest ring through a place has, None where there is none."""
    need_place(web, place)
    nears = nears_of(web)
    return least_told([ring_by_tie(nears, place, near) for near in nears[place]])


def ring_by(web, a, b):
    """How many places the shortest ring with two tied places side by side has, or None."""
    need_tie(web, a, b)
    return ring_by_tie(nears_of(web), a, b)


def evenness(web):
    """How many ties each place has; refuses a web where not all have as many."""
    d = even_by(web)
    if d is None:
        raise NotEven()
    return d


def full_layers(layers, due, times):
    """How many layers from 1 on are full: the first has as many places as are due, each next times as many."""
    full = 0
    size = due
    for layer in layers[1:]:
        if len(layer) != size:
            return full
        full += 1
        size *= times
    return full


def full_at(web, place):
    """How many layers around a place, one behind the other, are full."""
    d = evenness(web)
    return full_layers(layers_of(web, place), d, d - 1)


def full_by(web, a, b):
    """How many layers around two tied places, one behind the other, are full."""
    d = evenness(web)
    return full_layers(layers_by_tie(web, a, b), 2 * (d - 1), d - 1)


def longest_fit(d, many):
    """The greatest g for which growth asks for no more than so many places, None where there is none."""
    need_ties(d)
    need_number(many, 1, MOST_PLACES)
    return max([g for g in range(LEAST_RING, MOST_RING + 1) if least_by_growth(d, g) <= many], default=None)
