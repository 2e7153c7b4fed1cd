"""Colours of the points of partial systems, such that no three has only one."""

from paironce.errors import InvalidQuestion, TooMany
from paironce.partial import kept_threes

MOST_COLOURS = 10


def colouring(count, threes, colours, *, limit=20000):
    """The least colouring with so many colours, or None."""
    pairs = _pairs_ahead(count, kept_threes(count, threes))
    _check_colours(colours)
    told = []
    tried = 0
    least = 0
    while len(told) < count:
        fitting = _fitting(told, pairs[len(told)], colours, least)
        if fitting is not None:
            tried += 1
            if tried > limit:
                raise TooMany(limit)
            told.append(fitting)
            least = 0
        elif told:
            least = told.pop() + 1
        else:
            return None
    return tuple(told)


def check_colouring(count, threes, colours, told):
    """True if some integers are a colouring with so many colours."""
    kept = kept_threes(count, threes)
    _check_colours(colours)
    if len(told) != count or not all([0 <= colour < colours for colour in told]):
        return False
    return not any([told[a] == told[b] == told[c] for (a, b, c) in kept])


def _pairs_ahead(count, kept):
    """For each point the pairs of points ahead of it that are in a three with it."""
    pairs = [[] for _ in range(count)]
    for (a, b, c) in kept:
        pairs[c].append((a, b))
    return pairs


def _fitting(told, pairs, colours, least):
    """The first colour, from the least one on, that fits the point behind those that have one, or None."""
    # More than one new colour is not needed: new colours may be exchanged.
    end = min(max(told, default=-1) + 2, colours)
    barred = [told[a] for (a, b) in pairs if told[a] == told[b]]
    for colour in range(least, end):
        if colour not in barred:
            return colour
    return None


def _check_colours(colours):
    if not 1 <= colours <= MOST_COLOURS:
        raise InvalidQuestion("there are 1 to 10 colours")
