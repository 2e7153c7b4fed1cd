"""The third point of two points, and what is told by third points alone."""

from paironce.errors import InvalidQuestion, TooMany
from paironce.systems import check_points_below, checked, kept_size


def third(tree, a, b):
    """The third point of two different points."""
    kept = checked(tree)
    check_points_below(kept_size(kept), [a, b])
    if a == b:
        raise InvalidQuestion("one point alone has no third point")
    return kept_third(kept, a, b)


def product(tree, a, b):
    """The third point of two points, or the point itself if they are the same."""
    kept = checked(tree)
    check_points_below(kept_size(kept), [a, b])
    return kept_product(kept, a, b)


def are_three(tree, points):
    """True if three points, in whatever order, are a three."""
    kept = checked(tree)
    check_points_below(kept_size(kept), points)
    if len(points) != 3:
        raise InvalidQuestion("a three has three points")
    return kept_are_three(kept, points)


def through(tree, point, *, limit=2000):
    """The ascending list of the threes with the point."""
    kept = checked(tree)
    count = kept_size(kept)
    check_points_below(count, [point])
    if (count - 1) // 2 > limit:
        raise TooMany(limit)
    threes = []
    for other in range(count):
        if other != point:
            last = kept_third(kept, point, other)
            # Each three comes twice, once by either of its other points.
            if other < last:
                threes.append(tuple(sorted([point, other, last])))
    return sorted(threes)


def kept_product(tree, a, b):
    """The product of two points of a checked tree."""
    if a == b:
        return a
    return kept_third(tree, a, b)


def kept_are_three(tree, points):
    """True if three points of a checked tree are a three."""
    a, b, c = points
    return a != b and kept_third(tree, a, b) == c


def level_after(level):
    """The level that comes behind one of the three levels."""
    return (level + 1) % 3


def _bose_third(tree, a, b):
    m = tree[1] // 3
    i, x = divmod(a, m)
    j, y = divmod(b, m)
    if i == j:
        return (x + y) * ((m + 1) // 2) % m + m * level_after(i)
    if x == y:
        return x + m * (3 - i - j)
    if j == level_after(i):
        return (2 * y - x) % m + m * i
    return (2 * x - y) % m + m * j


def _skolem_third(tree, a, b):
    m = (tree[1] - 1) // 3
    t = m // 2
    # The odd point is 3 * m, so it is the greater one, in a level 3 of its own.
    i, x = divmod(min(a, b), m)
    j, y = divmod(max(a, b), m)
    if j == 3:
        return _skolem_third_of_odd(m, i, x)
    if i == j:
        return _skolem_made(m, x, y) + m * level_after(i)
    if x == y and x < t:
        return x + m * (3 - i - j)
    if j != level_after(i):
        i, x, j, y = j, y, i, x
    if y == x - t:
        return 3 * m
    return (_skolem_sum(m, y) - x) % m + m * i


def _skolem_third_of_odd(m, level, x):
    t = m // 2
    if x >= t:
        return x - t + m * level_after(level)
    return x + t + m * ((level + 2) % 3)


def _skolem_made(m, x, y):
    half, odd = divmod((x + y) % m, 2)
    return half + odd * (m // 2)


def _skolem_sum(m, made):
    # The only sum modulo m of two numbers that make this one.
    t = m // 2
    if made < t:
        return 2 * made
    return 2 * (made - t) + 1


def _affine_third(tree, a, b):
    point = 0
    place = 1
    while a > 0 or b > 0:
        a, x = divmod(a, 3)
        b, y = divmod(b, 3)
        point += (-x - y) % 3 * place
        place *= 3
    return point


def _binary_third(tree, a, b):
    return ((a + 1) ^ (b + 1)) - 1


def _listed_third(tree, a, b):
    sums = [sum(three) for three in tree[2] if a in three and b in three]
    return sums[0] - a - b


def _double_third(tree, a, b):
    part = tree[1]
    v = kept_size(part)
    odd = 2 * v
    if odd in (a, b):
        other = min(a, b)
        return (other + v) % odd
    i, x = divmod(a, v)
    j, y = divmod(b, v)
    if x == y:
        return odd
    last = kept_third(part, x, y)
    if i == j:
        return last
    return last + v


def _product_third(tree, a, b):
    first, second = tree[1], tree[2]
    w = kept_size(second)
    x, p = divmod(a, w)
    y, q = divmod(b, w)
    return kept_product(first, x, y) * w + kept_product(second, p, q)


THIRDS = {
    "bose": _bose_third,
    "skolem": _skolem_third,
    "affine": _affine_third,
    "binary": _binary_third,
    "listed": _listed_third,
    "double": _double_third,
    "product": _product_third,
}


def kept_third(tree, a, b):
    """The third point of two different points of a checked tree."""
    told = THIRDS[tree[0]]
    return told(tree, a, b)
