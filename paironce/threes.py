"""The numbers of threes."""

from math import isqrt

from paironce.errors import InvalidQuestion, TooMany
from paironce.systems import check_points_below, checked, kept_size, kept_three_count, power_of_three
from paironce.thirds import kept_are_three, kept_product, kept_third, level_after


def three_at(tree, number):
    """The three with the number."""
    kept = checked(tree)
    if not 0 <= number < kept_three_count(kept):
        raise InvalidQuestion("there is no three of this number")
    return kept_three_at(kept, number)


def number_of(tree, three):
    """The number of a three, its points in whatever order."""
    kept = checked(tree)
    check_points_below(kept_size(kept), three)
    if len(three) != 3 or not kept_are_three(kept, three):
        raise InvalidQuestion("these points are no three")
    return kept_number_of(kept, tuple(sorted(three)))


def all_threes(tree, *, limit=2000):
    """The list of all threes, by their numbers."""
    kept = checked(tree)
    count = kept_three_count(kept)
    if count > limit:
        raise TooMany(limit)
    return [kept_three_at(kept, number) for number in range(count)]


def pair_at(number):
    """The pair x < y with the number, pairs ordered by y, and then by x."""
    y = (1 + isqrt(8 * number + 1)) // 2
    return (number - y * (y - 1) // 2, y)


def number_of_pair(x, y):
    """The number of the pair x < y."""
    return y * (y - 1) // 2 + x


def _level_pair_at(tree, m, number):
    level, rest = divmod(number, m * (m - 1) // 2)
    x, y = pair_at(rest)
    a, b = x + m * level, y + m * level
    return (a, b, kept_third(tree, a, b))


def _number_of_level_pair(m, three):
    # Points of one level are neighbours in an ascending three.
    low, high, last = three
    if low // m != high // m:
        low, high = high, last
    level = low // m
    return level * (m * (m - 1) // 2) + number_of_pair(low % m, high % m)


def _in_all_levels(m, three):
    return [point // m for point in three] == [0, 1, 2]


def _bose_at(tree, number):
    m = tree[1] // 3
    if number < m:
        return (number, number + m, number + 2 * m)
    return _level_pair_at(tree, m, number - m)


def _bose_number(tree, three):
    m = tree[1] // 3
    if _in_all_levels(m, three):
        return three[0]
    return m + _number_of_level_pair(m, three)


def _skolem_at(tree, number):
    m = (tree[1] - 1) // 3
    t = m // 2
    if number < t:
        return (number, number + m, number + 2 * m)
    if number < 4 * t:
        level, x = divmod(number - t, t)
        return (x + t + m * level, x + m * level_after(level), 3 * m)
    return _level_pair_at(tree, m, number - 4 * t)


def _skolem_number(tree, three):
    m = (tree[1] - 1) // 3
    t = m // 2
    if three[2] == 3 * m:
        # Of the two other points only one has a number from t on in its level.
        upper = three[0] if three[0] % m >= t else three[1]
        return t + upper // m * t + upper % m - t
    if _in_all_levels(m, three):
        return three[0]
    return 4 * t + _number_of_level_pair(m, three)


def _affine_at(tree, number):
    turn, rest = divmod(number, power_of_three(tree[1] - 1))
    place = 1
    while (3 * place - 1) // 2 <= turn:
        place *= 3
    direction = place + turn - (place - 1) // 2
    point = rest // place * place * 3 + rest % place
    # A product makes 0 with the sum of its points, so that of 0 and it is this sum.
    other = kept_product(tree, 0, kept_product(tree, point, direction))
    return (point, other, kept_third(tree, point, other))


def _affine_number(tree, three):
    # The product of a and what makes 0 with b is the difference of b and a.
    direction = kept_product(tree, three[0], kept_product(tree, 0, three[1]))
    place = 1
    while 3 * place <= direction:
        place *= 3
    if direction // place == 2:
        direction = kept_product(tree, 0, direction)
    points = [point for point in three if point // place % 3 == 0]
    turn = (place - 1) // 2 + direction - place
    rest = points[0] // (3 * place) * place + points[0] % place
    return turn * power_of_three(tree[1] - 1) + rest


def _binary_before(highest):
    # The threes of the numbers from 1 on that have only places below this one.
    return ((1 << highest) - 1) * ((1 << highest) // 2 - 1) // 3


def _binary_at(tree, number):
    highest = 1
    while _binary_before(highest + 1) <= number:
        highest += 1
    before, rest = divmod(number - _binary_before(highest), 1 << (highest - 1))
    u = before + 1
    place = u.bit_length() - 1
    low = rest & ((1 << place) - 1)
    v = (1 << highest) + (rest >> place << (place + 1)) + low
    return (u - 1, v - 1, (u ^ v) - 1)


def _binary_number(tree, three):
    u, v, w = [point + 1 for point in three]
    highest = w.bit_length() - 1
    place = u.bit_length() - 1
    chosen = w if v >> place & 1 == 1 else v
    chosen -= 1 << highest
    rest = (chosen >> (place + 1) << place) + (chosen & ((1 << place) - 1))
    return _binary_before(highest) + (u - 1) * (1 << (highest - 1)) + rest


def _listed_at(tree, number):
    return tree[2][number]


def _listed_number(tree, three):
    return tree[2].index(three)


def _double_at(tree, number):
    v = kept_size(tree[1])
    if number < v:
        return (number, number + v, 2 * v)
    base, form = divmod(number - v, 4)
    a, b, c = kept_three_at(tree[1], base)
    i, j = divmod(form, 2)
    return (a + v * i, b + v * j, c + v * ((i + j) % 2))


def _double_number(tree, three):
    v = kept_size(tree[1])
    if three[2] == 2 * v:
        return three[0]
    (a, i), (b, j), (c, _) = sorted([(point % v, point // v) for point in three])
    return v + 4 * kept_number_of(tree[1], (a, b, c)) + 2 * i + j


def _product_at(tree, number):
    first, second = tree[1], tree[2]
    v, w = kept_size(first), kept_size(second)
    many, others = kept_three_count(first), kept_three_count(second)
    if number < v * others:
        a, rest = divmod(number, others)
        return [a * w + point for point in kept_three_at(second, rest)]
    number -= v * others
    if number < w * many:
        b, rest = divmod(number, many)
        return [point * w + b for point in kept_three_at(first, rest)]
    both, form = divmod(number - w * many, 6)
    one, other = divmod(both, others)
    a, b, c = kept_three_at(first, one)
    x, y, z = _in_form(kept_three_at(second, other), form)
    return (a * w + x, b * w + y, c * w + z)


def _in_form(three, form):
    """The points in one of the six orders: which one is first, and if the lesser other one follows."""
    at, turned = divmod(form, 2)
    low, high = [point for point in three if point != three[at]]
    if turned == 1:
        return (three[at], high, low)
    return (three[at], low, high)


def _product_number(tree, three):
    first, second = tree[1], tree[2]
    v, w = kept_size(first), kept_size(second)
    many, others = kept_three_count(first), kept_three_count(second)
    parts = [point // w for point in three]
    x, y, z = [point % w for point in three]
    if parts[0] == parts[1]:
        return parts[0] * others + kept_number_of(second, (x, y, z))
    if x == y:
        return v * others + x * many + kept_number_of(first, tuple(parts))
    ascending = sorted([x, y, z])
    form = 2 * ascending.index(x)
    if y > z:
        form += 1
    both = kept_number_of(first, tuple(parts)) * others + kept_number_of(second, tuple(ascending))
    return v * others + w * many + 6 * both + form


TELLERS = {
    "bose": _bose_at,
    "skolem": _skolem_at,
    "affine": _affine_at,
    "binary": _binary_at,
    "listed": _listed_at,
    "double": _double_at,
    "product": _product_at,
}
FINDERS = {
    "bose": _bose_number,
    "skolem": _skolem_number,
    "affine": _affine_number,
    "binary": _binary_number,
    "listed": _listed_number,
    "double": _double_number,
    "product": _product_number,
}


def kept_three_at(tree, number):
    """The three of a checked tree with a number that it has, ascending."""
    told = TELLERS[tree[0]]
    return tuple(sorted(told(tree, number)))


def kept_number_of(tree, three):
    """The number of an ascending three of a checked tree."""
    found = FINDERS[tree[0]]
    return found(tree, three)
