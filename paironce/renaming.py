"""Systems as lists of all their threes, and other names for their points."""

from paironce.errors import InvalidQuestion
from paironce.systems import checked_small, kept_size
from paironce.threes import all_threes


def listed(tree):
    """The listed tree of a system, with ascending threes."""
    kept = checked_small(tree)
    return _listed_tree(kept_size(kept), all_threes(kept))


def same_threes(one, other):
    """True if two systems have the same threes."""
    return listed(one) == listed(other)


def renamed(tree, names):
    """The listed tree of a system with the names of its points in place of the points."""
    _, count, threes = listed(tree)
    if len(names) != count:
        raise InvalidQuestion("there is another number of names than points")
    _check_names(names)
    return _listed_tree(count, [tuple(sorted([names[point] for point in three])) for three in threes])


def turned_back(names):
    """The names that undo these."""
    _check_names(names)
    back = [0] * len(names)
    for point, name in enumerate(names):
        back[name] = point
    return tuple(back)


def one_after_another(first, second):
    """The names that come of the first ones and then the second ones."""
    _check_names(first)
    _check_names(second)
    if len(first) != len(second):
        raise InvalidQuestion("there are names of two numbers of points")
    return tuple([second[name] for name in first])


def rings(names):
    """The list of the rings of names, each from its least point on."""
    _check_names(names)
    told = []
    seen = set()
    for first in range(len(names)):
        if first not in seen:
            ring = [first]
            while names[ring[-1]] != first:
                ring.append(names[ring[-1]])
            for point in ring:
                seen.add(point)
            told.append(tuple(ring))
    return told


def _listed_tree(count, threes):
    return ("listed", count, tuple(sorted(threes)))


def _check_names(names):
    if sorted(names) != list(range(len(names))):
        raise InvalidQuestion("names are the integers from 0 on, each once")
