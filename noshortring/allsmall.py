"""All webs of few places that fit, and the least webs that they can be renamed to."""

from noshortring.common import need_number
from noshortring.errors import TooGreat
from noshortring.fewest import need_ring
from noshortring.papers import all_completions
from noshortring.webs import nears_of, renamed

MOST_SMALL = 7
MOST_SMALL_TIES = 6
MOST_TOLD = 200


def need_small_ties_and_ring(d, g):
    """Refuses what is no number of ties in a small web, then what is no number of places of a ring."""
    need_number(d, 0, MOST_SMALL_TIES)
    need_ring(g)


def need_small(many, d, g):
    """Refuses what is no number of places of a small web, then the like of d and g."""
    need_number(many, 1, MOST_SMALL)
    need_small_ties_and_ring(d, g)


def small_fits(many, d, g):
    """The rising list of all webs of so many places that fit."""
    return sorted(all_completions((many, ()), d, g))


def all_fit_many(many, d, g):
    """How many webs of so many places fit."""
    need_small(many, d, g)
    return len(small_fits(many, d, g))


def first_fit(many, d, g):
    """The first web of so many places that fits, None where there is none."""
    need_small(many, d, g)
    webs = small_fits(many, d, g)
    return webs[0] if webs else None


def all_fit(many, d, g):
    """The rising list of all webs of so many places that fit; refused where these are too many."""
    need_small(many, d, g)
    webs = small_fits(many, d, g)
    if len(webs) > MOST_TOLD:
        raise TooGreat(len(webs), MOST_TOLD)
    return webs


def need_few_places(web):
    """Refuses a web of too many places."""
    if web[0] > MOST_SMALL:
        raise TooGreat(web[0], MOST_SMALL)


def least_orders(web):
    """All orders of the places that give the least form: the place that stands at i there gets the number i."""
    # Of two webs with as many ties the lesser one is that in which 0 has its ties to lesser numbers,
    # then 1, and so on. So the numbers are given in turn, and only what is least so far is kept. What
    # has no number yet lies in groups: all of a group get their numbers ahead of the next group's.
    nears = nears_of(web)
    rows = [((), [list(range(web[0]))])]
    for number in range(web[0]):
        rows = rows_with_one_more(nears, rows)
    return [order for order, groups in rows]


def rows_with_one_more(nears, rows):
    """The rows with one place more of their first groups, those alone that are least then."""
    longer = []
    for order, groups in rows:
        for place in groups[0]:
            others = [other for other in groups[0] if other != place]
            parts = parted(nears[place], [others] + groups[1:])
            sizes = [len(part) for part in parts]
            longer.append((sizes, order + (place,), [part for part in parts if part]))
    # In all rows the groups are as great, so the first sizes that differ are those of tied places.
    best = max([sizes for sizes, order, groups in longer])
    return [(order, groups) for sizes, order, groups in longer if sizes == best]


def parted(near, groups):
    """Each group as two: the places that are near, and behind them the others."""
    parts = []
    for group in groups:
        parts.append([place for place in group if place in near])
        parts.append([place for place in group if place not in near])
    return parts


def least_form(web):
    """The least web that a small web can be renamed to."""
    need_few_places(web)
    order = least_orders(web)[0]
    return renamed(web, tuple([order.index(place) for place in range(web[0])]))


def own_many(web):
    """In how many ways a small web is renamed to itself."""
    need_few_places(web)
    # From one order that gives the least form each way to rename the web to itself leads to another one.
    return len(least_orders(web))


def kinds_fit(many, d, g):
    """The rising list of the least forms of all webs of so many places that fit."""
    need_small(many, d, g)
    if d >= many:
        return []
    # A least form fits, too, is its own least form, and has 0 tied to 1 to d: only such webs need be put in order.
    begun = (many, tuple([(0, place) for place in range(1, d + 1)]))
    return sorted([web for web in all_completions(begun, d, g) if least_form(web) == web])


def kinds_many(many, d, g):
    """How many least forms the webs of so many places that fit have."""
    return len(kinds_fit(many, d, g))


def fewest_places(d, g):
    """The least number of places of a small web that fits, None where there is none."""
    need_small_ties_and_ring(d, g)
    for many in range(1, MOST_SMALL + 1):
        if small_fits(many, d, g):
            return many
    return None
