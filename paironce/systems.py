"""Trees of systems: which ones there are, and how many points and threes they have.

A function whose name begins with `kept_` takes a tree as `checked` returns it
and looks for no errors, so that other modules check a tree once only.
"""

from paironce.errors import InvalidQuestion, InvalidSystem, UnknownPoint

MOST_PARTS = 12
MOST_POINTS = 10 ** 30
MOST_LISTED = 60

# How many members a tree of a kind has, and how many trees these end with.
MEMBERS = {"bose": 2, "skolem": 2, "affine": 2, "binary": 2, "listed": 3, "double": 2, "product": 3}
ARMS = {"bose": 0, "skolem": 0, "affine": 0, "binary": 0, "listed": 0, "double": 1, "product": 2}


def is_system(tree):
    """True if this is a tree of a system."""
    try:
        checked(tree)
    except InvalidSystem:
        return False
    return True


def checked(tree):
    """The tree as it is kept: tuples, with ascending points in each listed three."""
    _check_parts(tree)
    kept = _kept(tree)
    if kept_size(kept) > MOST_POINTS:
        raise InvalidSystem("the system has too many points")
    return kept


def checked_small(tree):
    """The tree as it is kept, of a system that has as few points as a listed one."""
    kept = checked(tree)
    if kept_size(kept) > MOST_LISTED:
        raise InvalidQuestion("the system has too many points")
    return kept


def size(tree):
    """The number of points."""
    return kept_size(checked(tree))


def three_count(tree):
    """The number of threes."""
    return kept_three_count(checked(tree))


def threes_at(tree):
    """In how many threes each point lies."""
    return (size(tree) - 1) // 2


def part_count(tree):
    """The number of parts, the whole tree counted."""
    return _kept_part_count(checked(tree))


def arms_of(tree):
    """The trees behind the word of a double or a product."""
    return kept_arms(checked(tree))


def check_point(tree, point):
    """Raises UnknownPoint if the system does not have the point."""
    check_points_below(size(tree), [point])


def exists(count):
    """True if there is a system of so many points."""
    return count >= 1 and count % 6 in (1, 3)


def built(count):
    """A tree of a system of so many points."""
    if not exists(count) or count > MOST_POINTS:
        raise InvalidQuestion("there is no such system of so many points")
    if count == 1:
        return ("listed", 1, ())
    if count % 6 == 3:
        return ("bose", count)
    return ("skolem", count)


def kept_arms(tree):
    """The arms of a checked tree."""
    if ARMS[tree[0]] == 0:
        return ()
    return tree[1:]


def kept_size(tree):
    """The number of points of a checked tree."""
    kind = tree[0]
    if kind == "affine":
        return power_of_three(tree[1])
    if kind == "binary":
        return (1 << tree[1]) - 1
    if kind == "double":
        return 2 * kept_size(tree[1]) + 1
    if kind == "product":
        return kept_size(tree[1]) * kept_size(tree[2])
    return tree[1]


def kept_three_count(tree):
    """The number of threes of a checked tree."""
    count = kept_size(tree)
    return count * (count - 1) // 6


def power_of_three(exponent):
    """3 to the exponent."""
    power = 1
    for _ in range(exponent):
        power *= 3
    return power


def check_points_below(count, points):
    """Raises UnknownPoint for the first of the points that is not one of so many."""
    for point in points:
        if not 0 <= point < count:
            raise UnknownPoint(point)


def is_integer(value):
    """True for integers; True and False are none."""
    return isinstance(value, int) and not isinstance(value, bool)


def is_row(value):
    """True for tuples and lists."""
    return isinstance(value, (tuple, list))


def ascending_three(count, three):
    """Three different points, ascending, of so many points."""
    if not is_row(three) or len(three) != 3:
        raise InvalidSystem("a three has three points")
    for point in three:
        if not is_integer(point) or not 0 <= point < count:
            raise InvalidSystem("a three has points of the system")
    low, middle, high = sorted(three)
    if low == middle or middle == high:
        raise InvalidSystem("the points of a three are different")
    return (low, middle, high)


def pairs_in(threes):
    """The pairs of points that lie together in the threes, each as often as it does."""
    return [pair for (a, b, c) in threes for pair in ((a, b), (a, c), (b, c))]


def meet_twice(threes):
    """True if two points lie together in two of the threes, which are ascending."""
    pairs = pairs_in(threes)
    return len(set(pairs)) != len(pairs)


def _check_parts(tree):
    # Counting before anything is built bounds the depth of all that goes over trees.
    waiting = [tree]
    parts = 0
    while waiting:
        part = waiting.pop()
        parts += 1
        if parts > MOST_PARTS:
            raise InvalidSystem("the tree has too many parts")
        waiting.extend(_arms(part))


def _arms(part):
    if not is_row(part) or len(part) == 0:
        raise InvalidSystem("a tree is a tuple or a list")
    kind = part[0]
    if not isinstance(kind, str) or kind not in MEMBERS:
        raise InvalidSystem("there is no such kind of tree")
    if len(part) != MEMBERS[kind]:
        raise InvalidSystem("a tree of this kind has another number of members")
    if ARMS[kind] == 0:
        return []
    return list(part[1:])


def _kept(tree):
    kind = tree[0]
    if ARMS[kind] > 0:
        return (kind,) + tuple([_kept(arm) for arm in tree[1:]])
    if kind == "listed":
        return _kept_listed(tree[1], tree[2])
    if not is_integer(tree[1]) or not _is_number_of(kind, tree[1]):
        raise InvalidSystem("there is no system of this kind with this integer")
    return (kind, tree[1])


def _is_number_of(kind, number):
    if kind == "bose":
        return number >= 3 and number % 6 == 3
    if kind == "skolem":
        return number >= 7 and number % 6 == 1
    if kind == "affine":
        return 1 <= number <= 60
    return 2 <= number <= 99


def _kept_listed(count, threes):
    if not is_integer(count) or not 1 <= count <= MOST_LISTED:
        raise InvalidSystem("a listed system has 1 to 60 points")
    if not is_row(threes) or 6 * len(threes) != count * (count - 1):
        raise InvalidSystem("a system of so many points has another number of threes")
    kept = [ascending_three(count, three) for three in threes]
    # With this number of threes no two points are left out if none meet twice.
    if meet_twice(kept):
        raise InvalidSystem("two points lie in two threes")
    return ("listed", count, tuple(kept))


def _kept_part_count(tree):
    return 1 + sum([_kept_part_count(arm) for arm in kept_arms(tree)])
