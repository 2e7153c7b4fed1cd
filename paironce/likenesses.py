"""Likenesses: the ways to lead the points of a system to those of another one so that threes lead to threes."""

from paironce.errors import TooMany
from paironce.renaming import listed
from paironce.tables import all_rounds_in, product_table


def is_likeness(one, other, images):
    """True if a list or tuple of integers is a likeness of two systems."""
    first = listed(one)
    second = listed(other)
    if first[1] != second[1] or sorted(images) != list(range(second[1])):
        return False
    table = product_table(second)
    return all([table[images[a]][images[b]] == images[c] for (a, b, c) in first[2]])


def base_of(tree):
    """The ascending list of the points that are not made by the points ahead of them."""
    return [point for point, _ in _levels(product_table(listed(tree)))]


def likenesses(one, other, *, limit=2000):
    """The ascending list of all likenesses of two systems."""
    tables = _tables(one, other)
    # Counting is much faster than finding them all.
    return _found(tables, _count(tables, limit))


def likeness(one, other):
    """The first likeness of two systems, or None."""
    told = _found(_tables(one, other), 1)
    return told[0] if told else None


def likeness_count(one, other, *, limit=2000):
    """The number of all likenesses of two systems."""
    return _count(_tables(one, other), limit)


def are_alike(one, other):
    """True if two systems have a likeness."""
    return likeness(one, other) is not None


def places_of(tree, *, limit=2000):
    """The ascending list of the sets of points that are led to one another by likenesses of a system with itself."""
    table = product_table(listed(tree))
    moves = _moves(table)
    _check_number(moves, limit)
    # The least point of the place of each point, as far as places are joined.
    least = list(range(len(table)))
    for level in moves:
        for images in level:
            least = _joined(least, images)
    return [tuple([point for point, low in enumerate(least) if low == first]) for first in sorted(set(least))]


class Matching:
    """The search for likenesses of two systems with as many points, which are told by their tables of products."""

    def __init__(self, table, other):
        self.other = other
        self.levels = _levels(table)
        marks = _marks(table)
        marks_there = _marks(other)
        # Likenesses lead rounds to rounds, so they lead a point to points with its marks only.
        self.choices = [[image for image in range(len(other)) if marks_there[image] == marks[point]]
                        for point, _ in self.levels]

    def found(self, first, most):
        """The first likenesses, so many at most, that lead the first points of the base to those of a list."""
        told = []
        waiting = self._tries([None] * len(self.other), 0, first)
        while waiting and len(told) < most:
            images, level, image = waiting.pop()
            larger = self._with_image(images, level, image)
            if larger is not None and level + 1 == len(self.levels):
                told.append(tuple(larger))
            elif larger is not None:
                waiting.extend(self._tries(larger, level + 1, first))
        return told

    def _tries(self, images, level, first):
        """The images that the next point of the base may have, the last one first."""
        tried = self.choices[level]
        if level < len(first):
            tried = first[level:level + 1]
        return [(images, level, image) for image in reversed(tried)]

    def _with_image(self, images, level, image):
        """The images with those of one more point of the base and of what is made with it, or None if this is none."""
        if image in images:
            return None
        point, steps = self.levels[level]
        larger = list(images)
        larger[point] = image
        for (a, b, c) in steps:
            last = self.other[larger[a]][larger[b]]
            if larger[c] is None and last not in larger:
                larger[c] = last
            elif larger[c] != last:
                return None
        return larger


def _tables(one, other):
    first = listed(one)
    second = listed(other)
    return (product_table(first), product_table(second))


def _found(tables, most):
    """The first likenesses, so many at most."""
    table, other = tables
    if len(table) != len(other):
        return []
    return Matching(table, other).found([], most)


def _count(tables, limit):
    """The number of likenesses; raises TooMany if there are more than the limit."""
    if not _found(tables, 1):
        return 0
    # As many as a system has with itself, since it is alike.
    return _check_number(_moves(tables[0]), limit)


def _moves(table):
    """Likenesses of a system with itself that all are made of, one after another, by the points of the base.

    For each point of the base, those that leave the points of the base ahead of it where they are: one
    for each point to which such a likeness leads it.
    """
    matching = Matching(table, table)
    base = [point for point, _ in matching.levels]
    moves = []
    for level, choices in enumerate(matching.choices):
        moves.append([images for image in choices for images in matching.found(base[:level] + [image], 1)])
    return moves


def _check_number(moves, limit):
    """The number of all likenesses that are made of these; raises TooMany if this is more than the limit."""
    count = 1
    for level in moves:
        count *= len(level)
    if count > limit:
        raise TooMany(limit)
    return count


def _joined(least, images):
    """The least points of the places, when each point and its image lie in one place."""
    joined = least
    for point, image in enumerate(images):
        low, high = sorted([joined[point], joined[image]])
        joined = [low if first == high else first for first in joined]
    return joined


def _levels(table):
    """The points of the base, each with the threes that lie in what is made with it, and not with those ahead.

    A three (a, b, c) stands behind those that tell the images of a and b; it tells that of c, or tests it.
    """
    levels = []
    members = []
    places = {}
    for point in range(len(table)):
        if point not in places:
            at = len(members)
            places[point] = at
            members.append(point)
            steps = []
            while at < len(members):
                _put_steps(table, members, places, at, steps)
                at += 1
            levels.append((point, steps))
    return levels


def _put_steps(table, members, places, at, steps):
    """Finds the threes of the member at a place with two members ahead of it, or with one and a later one."""
    one = members[at]
    earlier = members[:at]
    for other in earlier:
        last = table[one][other]
        if last not in places:
            places[last] = len(members)
            members.append(last)
        # A three of three members came up where its second member stands.
        if places[last] > at:
            steps.append((other, one, last))


def _marks(table):
    """For each point the rounds that it has with the other points, in order."""
    marks = [[] for _ in table]
    for (a, b), lengths in all_rounds_in(table).items():
        marks[a].append(lengths)
        marks[b].append(lengths)
    return [sorted(mark) for mark in marks]
