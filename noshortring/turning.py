"""Webs by turns: each place is tied to those that are some step on."""

from noshortring.common import is_rising, is_whole, need_number
from noshortring.errors import NoLine, NoNumber
from noshortring.fewest import does_fit, grown_places, need_ties_and_ring
from noshortring.webs import MOST_PLACES, nears_of, shortest, ties_of, web_good

LEAST_PLACES = 3


def need_many(many):
    """Refuses what is no number of places that can be turned."""
    need_number(many, LEAST_PLACES, MOST_PLACES)


def are_steps(many, thing):
    """Whether the thing is steps of so many places."""
    if not isinstance(thing, tuple) or not all([is_whole(step, 1, many // 2) for step in thing]):
        return False
    return is_rising(thing)


def steps_good(many, thing):
    """Whether the thing is steps of a number of places."""
    need_many(many)
    return are_steps(many, thing)


def need_steps(many, steps):
    """Refuses what is no number of places, then what is no steps of it."""
    if not steps_good(many, steps):
        raise NoLine()


def web_turned(many, steps):
    """The web by these steps."""
    pairs = []
    for step in steps:
        pairs.extend([(place, (place + step) % many) for place in range(many)])
    return (many, ties_of(pairs))


def ties_turned(many, steps):
    """How many ties each place has by these steps."""
    # By a step of half of the places one comes to the same place forth and back.
    return len(steps) * 2 - len([step for step in steps if step * 2 == many])


def turned_web(many, steps):
    """The web of so many places by steps."""
    need_steps(many, steps)
    return web_turned(many, steps)


def turned_ties(many, steps):
    """How many ties each place of the web by steps has."""
    need_steps(many, steps)
    return ties_turned(many, steps)


def turned_ring(many, steps):
    """How many places the shortest ring of the web by steps has, None where there is none."""
    need_steps(many, steps)
    return shortest(web_turned(many, steps))


def steps_of(web):
    """The steps whose web it is, None where there are none."""
    if not web_good(web) or web[0] < LEAST_PLACES:
        raise NoNumber()
    steps = tuple([near for near in nears_of(web)[0] if near * 2 <= web[0]])
    return steps if web_turned(web[0], steps) == web else None


def all_steps(many):
    """The rising list of all steps of so many places."""
    rows = [()]
    for step in range(1, many // 2 + 1):
        rows = rows + [row + (step,) for row in rows]
    return sorted(rows)


def steps_that_fit(many, d, g):
    """The rising list of all steps of so many places whose web fits."""
    # Where growth asks for more places no web fits, and none need be made.
    if grown_places(d, g) > many:
        return []
    rows = [steps for steps in all_steps(many) if ties_turned(many, steps) == d]
    return [steps for steps in rows if does_fit(web_turned(many, steps), d, g)]


def by_turns(many, d, g):
    """The rising list of all steps of a number of places whose web fits d and g."""
    need_many(many)
    need_ties_and_ring(d, g)
    return steps_that_fit(many, d, g)


def least_by_turns(d, g):
    """The tuple of the least number of places with steps that fit and the first such steps, or None."""
    need_ties_and_ring(d, g)
    for many in range(LEAST_PLACES, MOST_PLACES + 1):
        rows = steps_that_fit(many, d, g)
        if rows:
            return (many, rows[0])
    return None
