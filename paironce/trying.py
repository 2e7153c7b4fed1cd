"""Terms tried in one system, with all points for their names."""

from paironce.errors import TooMany
from paironce.plain import plain_text
from paironce.systems import checked, kept_size
from paironce.terms import names_of
from paironce.thirds import kept_product


def first_difference(system, one, other, *, limit=10000):
    """The first points of the names for which two terms are unlike in a system, or None."""
    sides = {}
    ends = [plain_text(one, sides), plain_text(other, sides)]
    names = sorted(set(names_of(one) + names_of(other)))
    kept = checked(system)
    _check_choices(kept_size(kept), len(names), limit)
    if ends[0] == ends[1]:
        return None
    found = _first_unlike(kept, ends, sides)
    if found is None:
        return None
    # A name that is left out of both plain forms makes no difference, so its first point is 0.
    return {name: found.get(name, 0) for name in names}


def holds_in(system, one, other, *, limit=10000):
    """True if two terms come to the same point in a system, whatever points their names have."""
    return first_difference(system, one, other, limit=limit) is None


def _check_choices(count, names, limit):
    choices = 1
    for _ in range(names):
        choices *= count
    if choices > limit:
        raise TooMany(limit)


def _first_unlike(kept, ends, sides):
    """The first points of the names in two plain forms for which these are unlike, or None."""
    names, pairs = _parts(ends, sides)
    latest = _latest_names(names, pairs, sides)
    # With another point for a name only the pairs that need it or a later name come to others.
    steps = [[(pair, sides[pair]) for pair in pairs if latest[pair] >= at] for at in range(len(names))]
    points = {name: 0 for name in names}
    products = {}
    changed = 0
    while changed >= 0:
        for pair, (low, high) in steps[changed]:
            points[pair] = _product(kept, products, points[low], points[high])
        if points[ends[0]] != points[ends[1]]:
            return points
        changed = _choose_next(points, names, kept_size(kept))
    return None


def _parts(ends, sides):
    """The names in two plain forms, ascending, and the pairs that are parts of these, sides ahead of pairs."""
    needed = set(ends)
    for pair in reversed(list(sides)):
        if pair in needed:
            for side in sides[pair]:
                needed.add(side)
    return ([text for text in sorted(needed) if text not in sides], [pair for pair in sides if pair in needed])


def _latest_names(names, pairs, sides):
    """Which place the latest name has that each name or pair needs."""
    latest = {name: at for at, name in enumerate(names)}
    for pair in pairs:
        low, high = sides[pair]
        latest[pair] = max(latest[low], latest[high])
    return latest


def _product(kept, products, one, other):
    if (one, other) not in products:
        products[(one, other)] = kept_product(kept, one, other)
    return products[(one, other)]


def _choose_next(points, names, count):
    """Gives the names the points that come next; returns the place of the first one that changed, -1 at the end."""
    at = len(names) - 1
    while at >= 0 and points[names[at]] == count - 1:
        points[names[at]] = 0
        at -= 1
    if at >= 0:
        points[names[at]] += 1
    return at
