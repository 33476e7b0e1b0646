"""Webs to try, wrong things to hand in, and slow plain answers to compare with."""

import itertools
import random
import sys


def made(many, pairs):
    """A web, put together without the program."""
    return (many, tuple(sorted({(min(pair), max(pair)) for pair in pairs})))


def ring_web(many):
    return made(many, [(place, (place + 1) % many) for place in range(many)])


def row_web(many):
    return made(many, [(place, place + 1) for place in range(many - 1)])


def full_web(many):
    return made(many, itertools.combinations(range(many), 2))


def two_sided_web(one, other):
    return made(one + other, [(a, one + b) for a in range(one) for b in range(other)])


def spokes_web(many, step):
    outer = [(place, (place + 1) % many) for place in range(many)]
    inner = [(many + place, many + (place + step) % many) for place in range(many)]
    return made(2 * many, outer + inner + [(place, many + place) for place in range(many)])


def cube_web(power):
    many = 2 ** power
    return made(many, [(place, place ^ (1 << bit)) for place in range(many) for bit in range(power)])


def theta_web(*inner):
    """Two places with a row of so many places between them, for each number."""
    pairs = []
    many = 2
    for length in inner:
        row = [0] + list(range(many, many + length)) + [1]
        many += length
        pairs += zip(row, row[1:])
    return made(many, pairs)


def mixed(web, seed):
    """The web with its places numbered otherwise."""
    names = list(range(web[0]))
    random.Random(seed).shuffle(names)
    return made(web[0], [(names[a], names[b]) for a, b in web[1]])


LINES = made(14, [(7 + i, (i + step) % 7) for i in range(7) for step in (0, 1, 3)])
PETERSEN = spokes_web(5, 2)
# Rings of 3, 4 and 5 places, a row of two, and two places without ties.
SEVERAL = made(16, [(0, 5), (5, 9), (0, 9), (1, 2), (2, 14), (14, 3), (3, 1),
                    (4, 6), (6, 7), (7, 8), (8, 10), (10, 4), (11, 15)])
# The shortest ring, of three places, is not one through the place 0, which stands in one of four.
LATE = made(8, [(0, 1), (1, 2), (2, 3), (3, 0), (3, 4), (4, 7), (5, 7), (5, 6), (6, 7)])


def small_webs(most):
    """All webs of so many places at the most."""
    for many in range(1, most + 1):
        pairs = list(itertools.combinations(range(many), 2))
        for taken in range(2 ** len(pairs)):
            yield (many, tuple(pair for bit, pair in enumerate(pairs) if taken >> bit & 1))


def scattered_webs():
    """Webs of all sizes, the greater ones with few rings, so that these can all be gone through."""
    chance = random.Random(20)
    webs = []
    for many in range(1, 17):
        pairs = list(itertools.combinations(range(many), 2))
        for turn in range(8):
            most = len(pairs) if many < 7 else many + 4
            webs.append(made(many, chance.sample(pairs, chance.randint(0, min(most, len(pairs))))))
    return webs


def even_webs():
    """Webs in which all places have as many ties."""
    webs = [ring_web(many) for many in range(3, 17)]
    webs += [full_web(many) for many in range(1, 17)]
    webs += [two_sided_web(many, many) for many in range(1, 9)]
    webs += [spokes_web(5, 2), spokes_web(7, 2), spokes_web(8, 3), spokes_web(6, 1), LINES]
    webs += [cube_web(power) for power in range(5)]
    webs += [(many, ()) for many in (1, 2, 16)]
    webs += [made(10, [(0, 1), (2, 3), (4, 5), (6, 7), (8, 9)])]
    webs += [made(9, [(0, 1), (1, 2), (2, 0), (3, 4), (4, 5), (5, 6), (6, 7), (7, 8), (8, 3)])]
    return webs + [mixed(web, 4) for web in webs]


def known_webs():
    """Webs of many sorts whose rings can all be gone through."""
    webs = [(1, ()), (2, ()), (16, ()), made(2, [(0, 1)]), row_web(16), two_sided_web(1, 15), SEVERAL, LATE]
    webs += [ring_web(many) for many in range(3, 17)]
    webs += [theta_web(4, 5, 5), theta_web(0, 14), theta_web(7, 7), PETERSEN, LINES, cube_web(3)]
    webs += [made(16, [(place, (place + 1) % 15) for place in range(15)] + [(0, 15)])]
    webs = webs + [mixed(web, 3) for web in webs]
    return webs + scattered_webs()


def tied(web, a, b):
    return (a, b) in web[1] or (b, a) in web[1]


def plain_nears(web):
    return [tuple(b for b in range(web[0]) if tied(web, a, b)) for a in range(web[0])]


def plain_fars(web):
    """At each place, how far each place is, by going through all places between."""
    many = web[0]
    far_off = 1000
    fars = [[0 if a == b else 1 if tied(web, a, b) else far_off for b in range(many)] for a in range(many)]
    for middle in range(many):
        for a in range(many):
            for b in range(many):
                fars[a][b] = min(fars[a][b], fars[a][middle] + fars[middle][b])
    return [[None if far >= far_off else far for far in row] for row in fars]


def plain_even(web):
    counts = {len(near) for near in plain_nears(web)}
    return counts.pop() if len(counts) == 1 else None


def plain_ring(web):
    """The size of the shortest ring: around each place, the first two ways that meet."""
    nears = plain_nears(web)
    sizes = []
    for start in range(web[0]):
        fars = {start: 0}
        ahead = {start: None}
        for place in (row := [start]):
            for near in nears[place]:
                if near not in fars:
                    fars[near] = fars[place] + 1
                    ahead[near] = place
                    row.append(near)
                elif ahead[place] != near:
                    sizes.append(fars[place] + fars[near] + 1)
    return min(sizes, default=None)


def plain_pieces(web):
    """The rising tuples of places between which there are ways, by their least places."""
    fars = plain_fars(web)
    return sorted({tuple(b for b in range(web[0]) if fars[a][b] is not None) for a in range(web[0])})


def rings_so_long(web, size):
    """The rings of so many places, each once, with its least place first and the lesser way about."""
    nears = plain_nears(web)
    rows = [(start,) for start in range(web[0])]
    for step in range(size - 1):
        rows = [row + (near,) for row in rows for near in nears[row[-1]] if near > row[0] and near not in row]
    return [row for row in rows if row[0] in nears[row[-1]] and row[1] < row[-1]]


def plain_merit(web):
    """How many places the shortest ring has, endless for none, and how many of these there are not."""
    size = plain_ring(web)
    return (1000, 0) if size is None else (size, -len(rings_so_long(web, size)))


def plain_fits(web, d, g):
    size = plain_ring(web)
    return plain_even(web) == d and (size is None or size >= g)


def plain_may(web, d, g):
    """All pairs of places, either one ahead, that may be tied."""
    nears = plain_nears(web)
    fars = plain_fars(web)
    pairs = itertools.permutations(range(web[0]), 2)
    return {(a, b) for a, b in pairs if not tied(web, a, b) and len(nears[a]) < d and len(nears[b]) < d
            and (fars[a][b] is None or fars[a][b] >= g - 1)}


def plain_lacks(web, d):
    return sum(max(0, d - len(near)) for near in plain_nears(web))


def without(web, *pairs):
    """The web with these ties taken out."""
    return (web[0], tuple(tie for tie in web[1] if tie not in pairs))


def turns_of(ring):
    """A ring, begun at each of its places, both ways about."""
    for way in (ring, ring[::-1]):
        for start in range(len(ring)):
            yield way[start:] + way[:start]


def all_rings(web):
    """All rings, each once: its least place first, then the lesser of the two beside it."""
    nears = plain_nears(web)
    rings = []

    def go_on(row):
        for near in nears[row[-1]]:
            if near == row[0] and len(row) > 2 and row[1] < row[-1]:
                rings.append(tuple(row))
            elif near > row[0] and near not in row:
                go_on(row + [near])

    for start in range(web[0]):
        go_on([start])
    return rings


def beside_in(ring, a, b):
    """Whether two places stand beside one another in a ring."""
    return any({a, b} == {ring[i - 1], ring[i]} for i in range(len(ring)))


def deep(depth):
    thing = ()
    for level in range(depth):
        thing = (thing,) if level % 2 else [thing]
    return thing


# What is neither a whole number within any bounds here, nor a tuple that is due anywhere.
NEVER = [None, True, False, -1, -(10 ** 39), 10 ** 39, 99, "", "0", "1", "01", "web", [], [0], [0, 1], [[0, 1]],
         [3, []], {}, {0: 1}, {(0, 1): [2]}, {0: 0, 1: 1}, (None,), (True,), ([],), ({},), ("0",), ((0, [1]),),
         ({0: 1}, {}), (False, True), (0, True), (None, ()), ({}, []), deep(15), deep(16), [None] * 999, ("a",) * 998]


def fields_of(call, *things):
    """The name of the refusal of a call with its fields, or None where nothing is refused."""
    try:
        call(*things)
    except ValueError as refusal:
        return (type(refusal).__name__, vars(refusal))
    return None


def outcome(call, *things):
    """What a call tells, or the name of its refusal with the fields."""
    try:
        return call(*things)
    except ValueError as refusal:
        return (type(refusal).__name__, vars(refusal))


class TooLong(Exception):
    """More rows of the program were gone through than are allowed."""


def within(most, call, *things):
    """The answer of a call, so long as it takes at most so many rows of the program: no clock is asked."""
    rows = [0]

    def trace(frame, event, told):
        rows[0] += event == "line"
        if rows[0] > most:
            raise TooLong()
        return trace

    before = sys.gettrace()
    sys.settrace(trace)
    try:
        return call(*things)
    finally:
        sys.settrace(before)
