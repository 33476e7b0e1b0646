"""Sides of a web, its double, and folds of one web to another one."""

from noshortring.common import is_whole
from noshortring.errors import TooGreat
from noshortring.webs import MOST_PLACES, fars_from, is_place, nears_of, pieces_of, shortest, ties_of

MOST_TO_FOLD = 12


def sides_of(web):
    """At each place 0 or 1, unlike for tied ones and 0 first in each piece, None where there are none."""
    starts = [piece[0] for piece in pieces_of(web)]
    sides = tuple([far % 2 for far in fars_from(nears_of(web), starts)])
    return None if any([sides[a] == sides[b] for a, b in web[1]]) else sides


def sides_good(web, thing):
    """Whether the thing is sides of the web."""
    if not isinstance(thing, tuple) or not all([is_whole(side, 0, 1) for side in thing]):
        return False
    return thing == sides_of(web)


def double_of(web):
    """The double, however many places it has."""
    many = web[0]
    return (many * 2, ties_of([(a, many + b) for a, b in web[1]] + [(b, many + a) for a, b in web[1]]))


def doubled(web):
    """The double of a web that is not too great."""
    if web[0] * 2 > MOST_PLACES:
        raise TooGreat(web[0] * 2, MOST_PLACES)
    return double_of(web)


def doubled_ring(web):
    """How many places the shortest ring of the double has, None where there is none."""
    return shortest(double_of(web))


def fold_good(web, other, thing):
    """Whether the thing is a fold of the web to the other one."""
    if not isinstance(thing, tuple) or len(thing) != web[0] or not all([is_place(other, place) for place in thing]):
        return False
    # A near place met twice would stand twice on the one side and once on the other.
    nears = nears_of(other)
    met = [sorted([thing[place] for place in near]) for near in nears_of(web)]
    return all([row == nears[place] for row, place in zip(met, thing)])


def looks_of(nears):
    """At each place a number, the same for places from which all looks alike, as far as one goes."""
    looks = [0 for near in nears]
    for step in range(len(nears)):
        seen = [(looks[place], tuple(sorted([looks[each] for each in near]))) for place, near in enumerate(nears)]
        order = sorted(set(seen))
        looks = [order.index(look) for look in seen]
    return looks


def looks_of_both(web, other):
    """The looks of the places of both webs, those of the other one behind."""
    behind = [[web[0] + place for place in near] for near in nears_of(other)]
    return looks_of(nears_of(web) + behind)


def all_fars(web):
    """At each place, how far each place is."""
    nears = nears_of(web)
    return [fars_from(nears, [place]) for place in range(web[0])]


def fars_agree(far, folded, whole):
    """Whether two places so far may be folded to two so far; whole: no two places of a piece are folded to one."""
    if whole:
        return far == folded
    # A way is folded to a way. Places at most two ties apart are tied, or tied to one place, so they stay unlike.
    return folded <= far and (folded > 0 or far == 0 or far > 2)


def agreement(fars, folded, whole):
    """What tells whether a place may have its choice beside another place with its choice."""
    return lambda place, choice, other, each: fars_agree(fars[place][other], folded[choice][each], whole)


def narrowed(rooms, place, choice, agree):
    """The rooms of the other places, the places that each may have, once one place has its choice."""
    others = [other for other in rooms if other != place]
    return dict([(other, [each for each in rooms[other] if agree(place, choice, other, each)]) for other in others])


def can_fold(rooms, agree):
    """Whether each place can have one of its room so that all agree."""
    if not rooms:
        return True
    # The place with the fewest to choose from goes first: so what can't be is seen soon.
    place = min(list(rooms), key=lambda each: len(rooms[each]))
    for choice in rooms[place]:
        if can_fold(narrowed(rooms, place, choice, agree), agree):
            return True
    return False


def first_choice(rooms, place, agree):
    """The first choice of a place with which all the others can be folded, too, or None."""
    for choice in rooms[place]:
        if can_fold(narrowed(rooms, place, choice, agree), agree):
            return choice
    return None


def first_choices(rooms, agree):
    """The list of the first choices of all places, as lists compare, None where there are none."""
    choices = []
    left = rooms
    for place in list(rooms):
        choice = first_choice(left, place, agree)
        if choice is None:
            return None
        choices.append(choice)
        left = narrowed(left, place, choice, agree)
    return choices


def piece_folds(web, other, piece):
    """For each piece of the other web that a piece can be folded to, the first choices of its places."""
    looks = looks_of_both(web, other)
    fars = all_fars(web)
    folded = all_fars(other)
    found = []
    # A piece is folded to all of a piece, as many of its places to each place.
    for target in [each for each in pieces_of(other) if len(piece) % len(each) == 0]:
        rooms = dict([(place, [each for each in target if looks[web[0] + each] == looks[place]]) for place in piece])
        found.append(first_choices(rooms, agreement(fars, folded, len(piece) == len(target))))
    return [choices for choices in found if choices is not None]


def first_fold(web, other):
    """The first fold of a web to another one, as tuples compare, None where there is none."""
    if web[0] > MOST_TO_FOLD:
        raise TooGreat(web[0], MOST_TO_FOLD)
    fold = {}
    # What one piece is folded to leaves the others free, so each has its own first choices.
    for piece in pieces_of(web):
        choices = min(piece_folds(web, other, piece), default=None)
        if choices is None:
            return None
        fold.update(dict(zip(piece, choices)))
    return tuple([fold[place] for place in range(web[0])])
