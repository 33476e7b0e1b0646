"""How few places a web can have, by the ties at each place and by its shortest ring."""

from noshortring.common import need_number
from noshortring.errors import NoRing, NotEven
from noshortring.webs import LEAST_RING, even_by, shortest

LEAST_TIES = 2
MOST_TIES = 15
MOST_RING = 16


def need_ties(d):
    """Refuses what is no number of ties that each place is to have."""
    need_number(d, LEAST_TIES, MOST_TIES)


def need_any_ties(d):
    """Refuses what is no number of ties that a place may have, none and one among them."""
    need_number(d, 0, MOST_TIES)


def need_ring(g):
    """Refuses what is no number of places that the shortest ring is to have."""
    need_number(g, LEAST_RING, MOST_RING)


def need_ties_and_ring(d, g):
    """Refuses what is no number of ties, then what is no number of places of a ring."""
    need_ties(d)
    need_ring(g)


def need_any_ties_and_ring(d, g):
    """Refuses the like, but for none and one among the ties."""
    need_any_ties(d)
    need_ring(g)


def sum_of_powers(base, many):
    """The sum of the first so many powers, from the power of 0 on."""
    total = 0
    power = 1
    for step in range(many):
        total += power
        power *= base
    return total


def grown_places(d, g):
    """How many places growing from a place, for an odd g, or from a tie meets at the least."""
    powers = sum_of_powers(d - 1, g // 2)
    return 1 + d * powers if g % 2 == 1 else 2 * powers


def least_by_growth(d, g):
    """The places that are there at the least in a web even by d without a ring of fewer than g."""
    need_ties_and_ring(d, g)
    return grown_places(d, g)


def least_fit(d, g):
    """The least number of places, no less than by growth, above d and such that it times d is even."""
    many = max(least_by_growth(d, g), d + 1)
    return many if many * d % 2 == 0 else many + 1


def has_shorter_ring(web, g):
    """Whether the web has a ring of fewer than g places."""
    size = shortest(web)
    return size is not None and size < g


def does_fit(web, d, g):
    """Whether the web is even by d and has no ring of fewer than g places, whatever the bounds of d."""
    return even_by(web) == d and not has_shorter_ring(web, g)


def fits(web, d, g):
    """Whether the web is even by d and has no ring of fewer than g places."""
    need_ties_and_ring(d, g)
    return does_fit(web, d, g)


def surplus(web, d, g):
    """How many places more than by growth a web that fits has."""
    need_ties_and_ring(d, g)
    if even_by(web) != d:
        raise NotEven()
    if has_shorter_ring(web, g):
        raise NoRing()
    return web[0] - grown_places(d, g)


def tight_by(web):
    """The tuple (d, g) by which the web fits with no surplus, g being its shortest ring, or None."""
    d = even_by(web)
    g = shortest(web)
    if d is None or g is None or d < LEAST_TIES or grown_places(d, g) != web[0]:
        return None
    return (d, g)


def tight(web):
    """Whether the web has just as many places as growth asks for."""
    return tight_by(web) is not None
