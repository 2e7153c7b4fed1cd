"""Subsystems: sets of points that hold the third point of any two of them."""

from itertools import combinations

from paironce.errors import InvalidQuestion, TooMany
from paironce.systems import MOST_LISTED, check_points_below, checked, checked_small, kept_size, power_of_three
from paironce.thirds import kept_third


def closed(tree, points, *, limit=2000):
    """The least subsystem that holds the points of a list."""
    return sorted(_least(_checked_with(tree, points), points, limit))


def is_closed(tree, points):
    """True if the points of a list are a subsystem."""
    return _is_closed(_checked_with(tree, points), points)


def growth(tree, points, *, limit=2000):
    """The numbers of points of the least subsystems that hold the first point, the first two, and so on."""
    return [len(members) for members in _growing(_checked_with(tree, points), points, limit)]


def chain(tree, points, *, limit=2000):
    """The least subsystems that hold the first point, the first two, and so on, each once."""
    told = []
    for members in _growing(_checked_with(tree, points), points, limit):
        if len(told) == 0 or len(told[-1]) < len(members):
            told.append(sorted(members))
    return told


def taken_out(tree, points):
    """The least subsystem that holds the points, as a listed system."""
    kept = _checked_with(tree, points)
    if len(points) == 0:
        raise InvalidQuestion("no points make no system")
    try:
        members = sorted(_least(kept, points, MOST_LISTED))
    except TooMany:
        raise InvalidQuestion("the subsystem has too many points to be listed") from None
    numbers = {point: number for number, point in enumerate(members)}
    threes = []
    for a, b in combinations(members, 2):
        last = kept_third(kept, a, b)
        if last > b:
            threes.append((numbers[a], numbers[b], numbers[last]))
    return ("listed", len(members), tuple(threes))


def least_points(tree):
    """The fewest points whose least subsystem is the whole system, the first list of so many."""
    closing = Closing(checked_small(tree), MOST_LISTED)
    failed = {}
    many = 1
    told = None
    while told is None:
        told = _first_list(closing, [], many, failed)
        many += 1
    return told


def subsystems(tree, many, *, limit=2000):
    """The list of all subsystems with so many points, in ascending order."""
    kept = checked_small(tree)
    if many < 0:
        raise InvalidQuestion("a number of points is not below 0")
    return sorted([members for members in _all_up_to(kept, many, limit) if len(members) == many])


def subsystem_counts(tree, *, limit=2000):
    """How many subsystems have so many points, for each number of points with which there are some."""
    times = {}
    for members in _all_up_to(checked_small(tree), MOST_LISTED, limit):
        times[len(members)] = times.get(len(members), 0) + 1
    return sorted(times.items())


def meet(tree, first, second):
    """The ascending list of the points that lie in two subsystems."""
    kept = _checked_with(tree, list(first) + list(second))
    for points in (first, second):
        if not _is_closed(kept, points):
            raise InvalidQuestion("these points are no subsystem")
    return sorted(set(first) & set(second))


class Closing:
    """The least subsystems of a checked tree, as far as they have at most so many points."""

    def __init__(self, tree, most):
        self.tree = tree
        self.count = kept_size(tree)
        self.most = most
        self.known = {}

    def joined(self, members, point, enough):
        """The least subsystem with a subsystem and one more point, these ahead of its other points.

        It has at most `enough` points, so with so many nothing more is looked for. Returns None if it
        has too many points.
        """
        # A subsystem has less than half of the points of a greater one.
        if 2 * len(members) + 1 > self.most:
            return None
        found = members + [point]
        met = {point: {}}
        at = len(members)
        while at < len(found) and len(found) < enough:
            self._put_thirds(found, met, at)
            if len(found) > self.most:
                return None
            if 2 * len(found) > self.count:
                return self._whole(found)
            at += 1
        return found

    def _put_thirds(self, found, met, at):
        """Finds the third points of the point at a place and the points ahead of it.

        `met` tells, for each new point, with which points ahead of it its three was come to already,
        so each three is worked out once, where its second point stands.
        """
        one = found[at]
        earlier = [point for point in found[:at] if point not in met[one]]
        for other in earlier:
            last = self._third(one, other)
            if last not in met:
                found.append(last)
                met[last] = {}
            met[last][one] = True
            met[last][other] = True

    def _third(self, one, other):
        if self.count > MOST_LISTED:
            return kept_third(self.tree, one, other)
        # Small systems are gone over many times, and third points of listed ones take long.
        if (one, other) not in self.known:
            self.known[(one, other)] = kept_third(self.tree, one, other)
        return self.known[(one, other)]

    def _whole(self, found):
        if self.count > self.most:
            return None
        known = set(found)
        return found + [point for point in range(self.count) if point not in known]


def _checked_with(tree, points):
    kept = checked(tree)
    check_points_below(kept_size(kept), points)
    return kept


def _growing(tree, points, limit):
    """The least subsystems that hold the first point, the first two, and so on, their points in any order."""
    closing = Closing(tree, limit)
    members = []
    makers = []
    told = []
    for point in points:
        if point not in members:
            makers.append(point)
            members = closing.joined(members, point, _most_made(tree, makers))
            if members is None:
                raise TooMany(limit)
        told.append(members)
    return told


def _least(tree, points, limit):
    told = _growing(tree, points, limit)
    if len(told) == 0:
        return []
    return told[-1]


def _is_closed(tree, points):
    try:
        _least(tree, points, len(set(points)))
    except TooMany:
        return False
    return True


def _most_made(tree, points):
    """A number of points that the least subsystem of some different points does not exceed."""
    many = len(points)
    if many < 3:
        return 2 * many - 1
    kind = tree[0]
    if kind == "affine":
        return power_of_three(many - 1)
    if kind == "binary":
        return (1 << many) - 1
    if kind == "double":
        v = kept_size(tree[1])
        return 2 * _most_made(tree[1], sorted(set([point % v for point in points if point < 2 * v]))) + 1
    if kind == "product":
        w = kept_size(tree[2])
        firsts = sorted(set([point // w for point in points]))
        seconds = sorted(set([point % w for point in points]))
        return _most_made(tree[1], firsts) * _most_made(tree[2], seconds)
    return kept_size(tree)


def _first_list(closing, members, many, failed):
    """The first list of so many points that make the whole system with a subsystem, or None."""
    if len(members) == closing.count:
        return []
    key = (tuple(sorted(members)), many)
    if many == 0 or key in failed:
        return None
    in_vain = set(members)
    for point in range(closing.count):
        if point not in in_vain:
            larger = closing.joined(members, point, closing.count)
            told = _first_list(closing, larger, many - 1, failed)
            if told is not None:
                return [point] + told
            # What any of these points makes lies in what was made now.
            for other in larger:
                in_vain.add(other)
    failed[key] = True
    return None


def _all_up_to(tree, many, limit):
    """The list of all subsystems with at most so many points, each ascending."""
    closing = Closing(tree, many)
    told = [[]]
    waiting = [([], -1)]
    while waiting:
        if len(told) > limit:
            raise TooMany(limit)
        members, last = waiting.pop()
        for point in range(last + 1, closing.count):
            larger = _next_larger(closing, members, point)
            if larger is not None:
                told.append(sorted(larger))
                waiting.append((larger, point))
    return told


def _next_larger(closing, members, point):
    """The least subsystem with a subsystem and a point, if the point is the first one that is new in it.

    So each subsystem comes once: by its first point, the first one that this does not make, and so on.
    """
    if point in members:
        return None
    larger = closing.joined(members, point, closing.count)
    if larger is None or min(larger[len(members):]) < point:
        return None
    return larger
