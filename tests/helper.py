"""What the tests share: systems told by the words of the document, and its examples run."""

import copy
from itertools import combinations, permutations

FANO = [(2, 0, 1), (0, 3, 4), [5, 6, 0], (1, 3, 5), (6, 4, 1), (2, 3, 6), (5, 4, 2)]
NINE = [(8, 7, 6), (0, 1, 2), (3, 4, 5), (0, 3, 6), (1, 4, 7), (2, 5, 8),
        (0, 4, 8), (1, 5, 6), (2, 3, 7), (0, 5, 7), (1, 3, 8), (2, 4, 6)]

SINGLE = [
    ("bose", 3), ("bose", 9), ["bose", 15], ("bose", 21),
    ("skolem", 7), ("skolem", 13), ["skolem", 19], ("skolem", 25),
    ("affine", 1), ["affine", 2], ("affine", 3),
    ("binary", 2), ("binary", 3), ["binary", 4], ("binary", 5),
    ("listed", 1, []), ["listed", 1, ()], ("listed", 3, [[2, 1, 0]]),
    ("listed", 7, FANO), ["listed", 9, tuple(NINE)],
]
MADE = [
    ("double", ("listed", 1, ())), ["double", ("bose", 9)], ("double", ["skolem", 13]),
    ("double", ("affine", 2)), ("double", ("binary", 3)), ("double", ("listed", 7, FANO)),
    ("double", ["double", ("affine", 1)]),
    ("product", ("bose", 3), ("skolem", 7)), ["product", ["skolem", 7], ("affine", 1)],
    ("product", ("listed", 1, ()), ("listed", 7, FANO)), ("product", ("binary", 2), ("listed", 1, ())),
    ("product", ("listed", 3, [(1, 2, 0)]), ("listed", 9, NINE)),
    ("product", ("binary", 3), ("affine", 1)),
    ("product", ("double", ("affine", 1)), ("product", ("binary", 2), ("affine", 1))),
    ("double", ("product", ("affine", 1), ["double", ("bose", 3)])),
]
SMALL = SINGLE + MADE

GREAT = [
    ("bose", 10 ** 30 - 1), ("skolem", 10 ** 30 - 3), ("affine", 60), ("binary", 99),
    ("double", ("binary", 98)), ("double", ("skolem", 5 * 10 ** 29 - 1)),
    ("product", ("skolem", 10 ** 15 + 3), ("skolem", 10 ** 15 - 3)),
    ("product", ("affine", 20), ("product", ("affine", 30), ("affine", 10))),
    ("product", ("listed", 7, FANO), ("bose", 142857142857142857142857142851)),
    ("double", ("product", ("listed", 9, NINE), ("double", ("skolem", 10 ** 28 + 3)))),
]

NO_TREES = [
    (), [], ("box", 9), ("Bose", 9), ("", 9), ("bose",), ("bose", 9, 9), ["skolem"], ["skolem", 7, 7],
    ("affine",), ("affine", 2, 2), ("binary",), ("binary", 3, 3),
    ("listed",), ("listed", 1), ("listed", 3, [(0, 1, 2)], 0),
    ("double",), ("double", ("bose", 3), ("bose", 3)),
    ("product",), ("product", ("bose", 3)), ("product", ("bose", 3), ("bose", 3), ("bose", 3)),
    ("double", ()), ("double", ("bose", 4)), ("product", ("bose", 3), ("skolem", 9)),
    ("product", ("affine", 0), ("bose", 3)), ("double", ("double", ("listed", 3, []))),
    ("bose", -3), ("bose", 0), ("bose", 1), ("bose", 4), ("bose", 6), ("bose", 7), ("bose", 10 ** 30 + 5),
    ("skolem", -5), ("skolem", 0), ("skolem", 1), ("skolem", 3), ("skolem", 8), ("skolem", 9),
    ("skolem", 10 ** 30 + 3),
    ("affine", -1), ("affine", 0), ("affine", 61), ("affine", 10 ** 40),
    ("binary", -1), ("binary", 0), ("binary", 1), ("binary", 100), ("binary", 10 ** 40),
    ("listed", 0, []), ("listed", -1, []), ("listed", 2, []), ("listed", 61, []), ("listed", 60, []),
    ("listed", 1, [(0, 0, 0)]), ("listed", 3, []), ("listed", 3, [(0, 1, 2), (0, 1, 2)]),
    ("listed", 3, [(0, 1)]), ("listed", 3, [(0, 1, 2, 2)]), ("listed", 3, [()]),
    ("listed", 3, [(0, 1, 1)]), ("listed", 3, [(0, 0, 2)]), ("listed", 3, [(2, 1, 2)]),
    ("listed", 3, [(-1, 1, 2)]), ("listed", 3, [(1, 2, 3)]), ("listed", 3, [(0, 1, 10 ** 40)]),
    ("listed", 7, FANO[:-1]), ("listed", 7, FANO + [(2, 4, 5)]), ("listed", 7, FANO[:-1] + [(2, 4, 6)]),
    ("listed", 7, FANO[:-1] + FANO[:1]), ("listed", 4, [(0, 1, 2), (0, 1, 3)]),
    ("listed", 60, [(0, 1, 2)] * 590), ("listed", 61, [(0, 1, 2)] * 610), ("listed", 6, [(0, 1, 2)] * 5),
    ("double", ("affine", 63)), ("double", ("bose", 5 * 10 ** 29 + 1)), ("double", ("binary", 99)),
    ("product", ("affine", 60), ("skolem", 25)), ("product", ("skolem", 10 ** 15 + 3), ("bose", 10 ** 15 - 1)),
    ("product", ("binary", 50), ("binary", 50)),
]


def doubled(tree, times):
    for _ in range(times):
        tree = ("double", tree)
    return tree


def points_in(tree):
    """The number of points, by point 3."""
    kind = tree[0]
    if kind == "affine":
        return 3 ** tree[1]
    if kind == "binary":
        return 2 ** tree[1] - 1
    if kind == "double":
        return 2 * points_in(tree[1]) + 1
    if kind == "product":
        return points_in(tree[1]) * points_in(tree[2])
    return tree[1]


def figures(number, base, many):
    told = []
    for _ in range(many):
        told.append(number % base)
        number //= base
    return told


def two_in_a_level(m, points, made):
    """Two numbers in one level, and in the next one what they make."""
    for last in points:
        others = [point for point in points if point != last]
        (i, x), (j, y) = [divmod(point, m) for point in others]
        if i == j and divmod(last, m) == ((i + 1) % 3, made(x, y)):
            return True
    return False


def is_bose_three(n, points):
    m = n // 3
    if sorted(point // m for point in points) == [0, 1, 2]:
        return len({point % m for point in points}) == 1
    return two_in_a_level(m, points, lambda x, y: (x + y) * (m + 1) // 2 % m)


def skolem_made(m, x, y):
    s = (x + y) % m
    return s // 2 if s % 2 == 0 else m // 2 + (s - 1) // 2


def is_skolem_three(n, points):
    m = (n - 1) // 3
    t = m // 2
    if n - 1 in points:
        (i, x), (j, y) = sorted((divmod(point, m) for point in points if point != n - 1),
                                key=lambda told: -told[1])
        return x >= t and y == x - t and j == (i + 1) % 3
    if sorted(point // m for point in points) == [0, 1, 2]:
        return len({point % m for point in points}) == 1 and points[0] % m < t
    return two_in_a_level(m, points, lambda x, y: skolem_made(m, x, y))


def is_double_three(tree, points):
    v = points_in(tree[1])
    if 2 * v in points:
        low, high = sorted(point for point in points if point != 2 * v)
        return high == low + v
    flags = [point // v for point in points]
    return sum(flags) in (0, 2) and is_three(tree[1], [point % v for point in points])


def is_product_three(tree, points):
    w = points_in(tree[2])
    for part, told in ((tree[1], [p // w for p in points]), (tree[2], [p % w for p in points])):
        if len(set(told)) == 2 or (len(set(told)) == 3 and not is_three(part, told)):
            return False
    return True


def is_three(tree, points):
    """True if three points are a three, by the points 15 to 20 and 23 to 27."""
    if len(set(points)) != 3:
        return False
    kind = tree[0]
    if kind == "bose":
        return is_bose_three(tree[1], points)
    if kind == "skolem":
        return is_skolem_three(tree[1], points)
    if kind == "affine":
        return all(sum(told) % 3 == 0 for told in zip(*(figures(p, 3, tree[1]) for p in points)))
    if kind == "binary":
        return all(sum(told) % 2 == 0 for told in zip(*(figures(p + 1, 2, tree[1]) for p in points)))
    if kind == "listed":
        return sorted(points) in [sorted(three) for three in tree[2]]
    if kind == "double":
        return is_double_three(tree, points)
    return is_product_three(tree, points)


def threes_by_search(tree):
    """All threes of a small system, ascending: three points, tried one after another."""
    return [three for three in combinations(range(points_in(tree)), 3) if is_three(tree, three)]


def pairs_in_order(many):
    """Pairs x < y, ordered by y, and then by x (point 22)."""
    return [(x, y) for y in range(many) for x in range(y)]


def level_threes_in_order(m, made):
    return [tuple(sorted((x + m * i, y + m * i, made(x, y) + m * ((i + 1) % 3))))
            for i in range(3) for x, y in pairs_in_order(m)]


def skolem_in_order(n):
    m = (n - 1) // 3
    t = m // 2
    told = [(x, x + m, x + 2 * m) for x in range(t)]
    told += [tuple(sorted((n - 1, x + t + m * i, x + m * ((i + 1) % 3)))) for i in range(3) for x in range(t)]
    return told + level_threes_in_order(m, lambda x, y: skolem_made(m, x, y))


def affine_place(k, three):
    """The direction of a three, and its point with the figure 0 where the direction has its highest."""
    a, b = [figures(point, 3, k) for point in three[:2]]
    for told in ([(y - x) % 3 for x, y in zip(a, b)], [(x - y) % 3 for x, y in zip(a, b)]):
        place = max(at for at in range(k) if told[at] != 0)
        if told[place] == 1:
            points = [point for point in three if figures(point, 3, k)[place] == 0]
            return (sum(figure * 3 ** at for at, figure in enumerate(told)), points)


def binary_place(three):
    """The highest place of w, then u, then that one of v and w which has 0 at the highest place of u."""
    u, v, w = (point + 1 for point in three)
    place = max(at for at in range(200) if u & 2 ** at)
    return (max(at for at in range(200) if w & 2 ** at), u, [x for x in (v, w) if not x & 2 ** place])


def double_in_order(v, threes):
    told = [(a, a + v, 2 * v) for a in range(v)]
    for a, b, c in threes:
        for i, j, k in ((0, 0, 0), (0, 1, 1), (1, 0, 1), (1, 1, 0)):
            told.append(tuple(sorted((a + v * i, b + v * j, c + v * k))))
    return told


def product_in_order(v, first, w, second):
    told = [tuple(a * w + x for x in three) for a in range(v) for three in second]
    told += [tuple(a * w + x for a in three) for x in range(w) for three in first]
    for a, b, c in first:
        for three in second:
            for x in three:
                y, z = [point for point in three if point != x]
                told.append((a * w + x, b * w + y, c * w + z))
                told.append((a * w + x, b * w + z, c * w + y))
    return told


def threes_in_order(tree):
    """All threes of a small system by their numbers, by the points 22 to 27."""
    kind = tree[0]
    if kind == "bose":
        m = tree[1] // 3
        return ([(x, x + m, x + 2 * m) for x in range(m)]
                + level_threes_in_order(m, lambda x, y: (x + y) * (m + 1) // 2 % m))
    if kind == "skolem":
        return skolem_in_order(tree[1])
    if kind == "affine":
        return sorted(threes_by_search(tree), key=lambda three: affine_place(tree[1], three))
    if kind == "binary":
        return sorted(threes_by_search(tree), key=binary_place)
    if kind == "listed":
        return [tuple(sorted(three)) for three in tree[2]]
    if kind == "double":
        return double_in_order(points_in(tree[1]), threes_in_order(tree[1]))
    return product_in_order(points_in(tree[1]), threes_in_order(tree[1]),
                            points_in(tree[2]), threes_in_order(tree[2]))


def fours_in(threes):
    """All fours among ascending threes: four of them that lie on six points (point 85)."""
    return [four for four in combinations(threes, 4) if len({point for three in four for point in three}) == 6]


def exchanged(threes, four):
    """Other threes with the same pairs: at each three of a four, its points' opposite ones in its place."""
    opposite = {}
    for point in {point for three in four for point in three}:
        met = {other for three in four if point in three for other in three}
        (opposite[point],) = {other for three in four for other in three} - met
    new = [tuple(sorted(opposite[point] for point in three)) for three in four]
    return sorted([three for three in threes if three not in four] + new)


# The two systems of 13 points that are not alike.
THIRTEEN = sorted(tuple(sorted((start + turn) % 13 for start in first)) for first in ((0, 1, 4), (0, 2, 7)) for turn in range(13))
OTHER_THIRTEEN = exchanged(THIRTEEN, fours_in(THIRTEEN)[0])


NAMES = ("x", "z9", "abcdefghijkl", "a0000000000b", "q1w2e3", "size")
NO_NAMES = ("", "abcdefghijklm", "a000000000000", "1a", "0", "X", "aB", "A1", "a b", " a", "a ", "a_", "_a", "a-b", "a.b",
            "x\n", "\u00e4", "a\u00df", "a\u0663", "\u0430", "a\u00b2")


def turned(term):
    """The term with the sides of all pairs exchanged."""
    return term if isinstance(term, str) else (turned(term[1]), turned(term[0]))


def as_lists(term):
    return term if isinstance(term, str) else [as_lists(side) for side in term]


def as_tuples(term):
    return term if isinstance(term, str) else tuple(as_tuples(side) for side in term)


def text_of(term):
    """The text of a term (point 45)."""
    return term if isinstance(term, str) else "(%s %s)" % (text_of(term[0]), text_of(term[1]))


def in_order(terms):
    return sorted(terms, key=lambda term: (len(text_of(term)), text_of(term)))


def parts_of(term):
    return [term] + ([] if isinstance(term, str) else parts_of(term[0]) + parts_of(term[1]))


def leaves_of(term):
    return [part for part in parts_of(term) if isinstance(part, str)]


def terms_with(names, leaves):
    """All terms of some names in which so many names stand."""
    if leaves == 1:
        return list(names)
    return [(one, other) for many in range(1, leaves)
            for one in terms_with(names, many) for other in terms_with(names, leaves - many)]


def once_changed(term):
    """What one use of one rule of point 46 makes of a term, for each rule and place."""
    if isinstance(term, str):
        return []
    one, other = term
    told = [(less, other) for less in once_changed(one)] + [(one, less) for less in once_changed(other)]
    if one == other:
        told.append(one)
    for side, pair in ((one, other), (other, one)):
        if not isinstance(pair, str):
            told += [pair[1 - at] for at in (0, 1) if pair[at] == side]
    if in_order([one, other])[0] != one:
        told.append((other, one))
    return told


def plain_by_rules(term, choose=lambda told: told[0]):
    """The plain form, by single uses of the rules; `choose` tells which one is used."""
    told = once_changed(term)
    while told:
        term = choose(told)
        told = once_changed(term)
    return term


def third_table(tree):
    """The third points of all two points of a small system."""
    table = {}
    for three in threes_by_search(tree):
        for a, b, c in permutations(three):
            table[a, b] = c
    return table


def comes_to(table, term, points):
    """The point to which a term comes (point 44)."""
    if isinstance(term, str):
        return points[term]
    one, other = [comes_to(table, side, points) for side in term]
    return one if one == other else table[one, other]


def unchanged(case, call, *told, **limits):
    """Calls, tests that the arguments stay as they were, and returns the answer."""
    before = copy.deepcopy(told)
    answer = call(*told, **limits)
    case.assertEqual(repr(told), repr(before))
    return answer


def raised(case, error, call, *told, **limits):
    """Tests that just this error is raised, arguments left alone; returns the error."""
    before = copy.deepcopy(told)
    with case.assertRaises(error) as caught:
        call(*told, **limits)
    case.assertIs(type(caught.exception), error)
    case.assertEqual(repr(told), repr(before))
    return caught.exception


def run_examples(case, text):
    """Runs examples as the interface writes them."""
    names = {}
    lines = text.strip().split("\n")
    for at, line in enumerate(lines):
        if not line.startswith(">>> "):
            continue
        asked = line[len(">>> "):]
        answers = [told for told in lines[at + 1:at + 2] if not told.startswith(">>> ")]
        if not answers:
            exec(asked, names)
        elif answers[0].startswith("raises "):
            with case.assertRaises(ValueError) as caught:
                eval(asked, names)
            case.assertEqual(type(caught.exception).__name__, answers[0][len("raises "):])
        else:
            case.assertEqual(repr(eval(asked, names)), answers[0])
