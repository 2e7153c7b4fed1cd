"""Partial systems: threes in which no two points lie together twice.

Which pairs are open is kept as a list of integers, `opens`, one for each point: it has
the bit of another point exactly if these two points lie in no three. So the thirds of
two points are the bits that both integers have.
"""

from paironce.errors import InvalidQuestion, InvalidSystem
from paironce.systems import (MOST_LISTED, ascending_three, check_points_below, is_integer, is_row, meet_twice,
                              pairs_in)


def kept_threes(count, threes):
    """The ascending list of the threes, each ascending."""
    kept = sorted(_ascending_threes(count, threes))
    if meet_twice(kept):
        raise InvalidSystem("two points lie in two threes")
    return kept


def first_fault(count, threes):
    """The first pair that lies in two threes, otherwise the first one that lies in none."""
    times = {}
    for pair in pairs_in(_ascending_threes(count, threes)):
        times[pair] = times.get(pair, 0) + 1
    pairs = [(a, b) for a in range(count) for b in range(a + 1, count)]
    for (a, b) in pairs:
        if times.get((a, b), 0) > 1:
            return ("twice", a, b)
    for (a, b) in pairs:
        if (a, b) not in times:
            return ("missing", a, b)
    return None


def is_whole(count, threes):
    """True if each two points lie in just one three."""
    return first_fault(count, threes) is None


def open_pairs(count, threes):
    """The ascending list of the pairs that lie in no three."""
    opens = opens_of(count, kept_threes(count, threes))
    return [(a, b) for a in range(count) for b in points_of(opens[a]) if a < b]


def open_thirds(count, threes, a, b):
    """The ascending list of the points that make a new three with two points."""
    opens = opens_of(count, kept_threes(count, threes))
    check_points_below(count, [a, b])
    if a == b:
        raise InvalidQuestion("one point alone has no thirds")
    if not is_open(opens, a, b):
        return []
    return thirds_of(opens, a, b)


def odd_point(count, threes):
    """The first point that lies in an odd number of open pairs, or None."""
    opens = opens_of(count, kept_threes(count, threes))
    for point in range(count):
        if len(points_of(opens[point])) % 2 == 1:
            return point
    return None


def opens_of(count, kept):
    """Which pairs are open when there are these threes."""
    opens = [((1 << count) - 1) ^ (1 << point) for point in range(count)]
    for three in kept:
        opens = with_three(opens, three)
    return opens


def with_three(opens, three):
    """Which pairs are open when a three of open pairs is put in."""
    a, b, c = three
    closed = list(opens)
    closed[a] ^= 1 << b | 1 << c
    closed[b] ^= 1 << a | 1 << c
    closed[c] ^= 1 << a | 1 << b
    return closed


def is_open(opens, a, b):
    """True if two points lie in no three."""
    return opens[a] >> b & 1 == 1


def thirds_of(opens, a, b):
    """The ascending list of the thirds of the two points of an open pair."""
    return points_of(opens[a] & opens[b])


def points_of(bits):
    """The ascending list of the points whose bits an integer has."""
    return [point for point in range(bits.bit_length()) if bits >> point & 1 == 1]


def _ascending_threes(count, threes):
    if not is_integer(count) or not 1 <= count <= MOST_LISTED:
        raise InvalidSystem("a partial system has 1 to 60 points")
    if not is_row(threes):
        raise InvalidSystem("the threes are a list or a tuple")
    return [ascending_three(count, three) for three in threes]
