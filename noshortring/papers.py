"""Completions of a web that lacks ties, and papers that there are none."""

from noshortring.errors import TooGreat
from noshortring.fewest import does_fit, has_shorter_ring, need_any_ties, need_any_ties_and_ring
from noshortring.webs import fars_from, first_ring, is_place, nears_of, need_place, ring_good, ties_of, web_good

MOST_LACKS = 6


def ties_at(web):
    """At each place, how many ties it has."""
    return [len(near) for near in nears_of(web)]


def lacking_places(web, d):
    """The rising list of the places with fewer than d ties."""
    return [place for place, ties in enumerate(ties_at(web)) if ties < d]


def places_to_tie(web, d, g, a):
    """The rising list of the places that a place may be tied to."""
    nears = nears_of(web)
    if len(nears[a]) >= d:
        return []
    # The place itself is 0 ties far and a tied one 1, always less than g less 1: neither comes in.
    fars = fars_from(nears, [a])
    return [b for b, far in enumerate(fars) if len(nears[b]) < d and (far is None or far >= g - 1)]


def may_tie(web, d, g, a, b):
    """Whether two places may be tied for d and g."""
    need_any_ties_and_ring(d, g)
    need_place(web, a)
    need_place(web, b)
    return b in places_to_tie(web, d, g, a)


def with_tie(web, a, b):
    """The web with one tie more."""
    return (web[0], ties_of(web[1] + ((a, b),)))


def lacks(web, d):
    """How many ties the places of the web lack together."""
    need_any_ties(d)
    return sum([d - ties for ties in ties_at(web) if ties < d])


def need_few_lacks(web, d, g):
    """Refuses wrong numbers, then a web that lacks too many ties."""
    need_any_ties_and_ring(d, g)
    many = lacks(web, d)
    if many > MOST_LACKS:
        raise TooGreat(many, MOST_LACKS)


def all_completions(web, d, g):
    """The list of all completions, each once, however many ties the web lacks."""
    if max(ties_at(web)) > d or has_shorter_ring(web, g):
        return []
    return completions_behind(web, d, g, (0, 0))


def completions_behind(web, d, g, last):
    """The completions by further ties that are greater than the last one."""
    lacking = lacking_places(web, d)
    if not lacking:
        return [web]
    a = lacking[0]
    # The further ties of a completion come in their order alone, so it is met once.
    places = [b for b in places_to_tie(web, d, g, a) if (a, b) > last]
    if len(places) < d - ties_at(web)[a]:
        return []
    found = []
    for b in places:
        found.extend(completions_behind(with_tie(web, a, b), d, g, (a, b)))
    return found


def completed(web, d, g):
    """Some completion of the web, None where there is none."""
    need_few_lacks(web, d, g)
    found = all_completions(web, d, g)
    return found[0] if found else None


def is_completion(web, d, g, thing):
    """Whether the thing is a completion of the web."""
    need_few_lacks(web, d, g)
    if not web_good(thing) or thing[0] != web[0]:
        return False
    return all([tie in thing[1] for tie in web[1]]) and does_fit(thing, d, g)


def completions_many(web, d, g):
    """How many completions the web has."""
    need_few_lacks(web, d, g)
    return len(all_completions(web, d, g))


def paper_good(web, d, g, thing):
    """Whether the thing is a paper of the web."""
    need_few_lacks(web, d, g)
    return is_paper(web, d, g, thing)


def is_paper(web, d, g, thing):
    """Whether the thing is a paper of the web, however many ties this lacks."""
    if not isinstance(thing, tuple):
        return False
    if len(thing) == 3:
        return thing[0] == "cases" and are_cases(web, d, g, thing[1], thing[2])
    if len(thing) != 2:
        return False
    if thing[0] == "ring":
        return ring_good(web, thing[1]) and len(thing[1]) < g
    if not is_place(web, thing[1]):
        return False
    if thing[0] == "over":
        return ties_at(web)[thing[1]] > d
    return thing[0] == "lack" and is_stuck(web, d, g, thing[1])


def is_stuck(web, d, g, place):
    """Whether the place may be tied to fewer places than it lacks ties."""
    return len(places_to_tie(web, d, g, place)) < d - ties_at(web)[place]


def are_cases(web, d, g, a, things):
    """Whether the things are a list with a paper for each place that a lacking place may be tied to."""
    if not is_place(web, a) or ties_at(web)[a] >= d or not isinstance(things, list):
        return False
    # A truth would compare like a place.
    if not all([isinstance(case, tuple) and len(case) == 2 and is_place(web, case[0]) for case in things]):
        return False
    if [b for b, paper in things] != places_to_tie(web, d, g, a):
        return False
    return all([is_paper(with_tie(web, a, b), d, g, paper) for b, paper in things])


def paper_for(web, d, g):
    """Some paper of the web, None where there is a completion."""
    need_few_lacks(web, d, g)
    return some_paper(web, d, g)


def some_paper(web, d, g):
    """Some paper of the web, however many ties this lacks, None where there is a completion."""
    for place, ties in enumerate(ties_at(web)):
        if ties > d:
            return ("over", place)
    if has_shorter_ring(web, g):
        return ("ring", first_ring(web))
    lacking = lacking_places(web, d)
    for place in lacking:
        if is_stuck(web, d, g, place):
            return ("lack", place)
    return paper_by_cases(web, d, g, lacking[0]) if lacking else None


def paper_by_cases(web, d, g, a):
    """The paper by all ties that a lacking place may have, None where one of them leads to a completion."""
    cases = []
    for b in places_to_tie(web, d, g, a):
        paper = some_paper(with_tie(web, a, b), d, g)
        if paper is None:
            return None
        cases.append((b, paper))
    return ("cases", a, cases)
