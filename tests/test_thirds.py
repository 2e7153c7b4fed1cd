import unittest
from itertools import permutations

from paironce.errors import InvalidQuestion, InvalidSystem, TooMany, UnknownPoint
from paironce.systems import checked, size
from paironce.thirds import are_three, product, third, through
from helper import (FANO, GREAT, MADE, NINE, NO_TREES, SMALL, is_three, points_in, raised, run_examples,
                    skolem_made, threes_by_search, unchanged)


def ends(tree):
    """Some points of a great system, at both ends and where its parts meet."""
    count = points_in(tree)
    told = [0, 1, 2, 3, 6, count // 2 - 1, count // 2, count // 2 + 1, count // 3, 2 * count // 3,
            count - 1, count - 2, count - 3, count - 7]
    if tree[0] == "product":
        told += [points_in(tree[2]) - 1, points_in(tree[2]), points_in(tree[2]) + 1]
    return sorted(set(told))


class Thirds(unittest.TestCase):
    def test_examples(self):
        run_examples(self, """
>>> from paironce.thirds import third, through
>>> (third(("skolem", 7), 1, 6), third(("bose", 9), 0, 4), third(("binary", 99), 0, 4), third(("double", ("bose", 3)), 0, 4))
(2, 2, 3, 5)
>>> through(("double", ("affine", 1)), 6)
[(0, 3, 6), (1, 4, 6), (2, 5, 6)]
""")

    def test_each_two_points_lie_in_one_three(self):
        for tree in SMALL:
            count = points_in(tree)
            threes = threes_by_search(tree)
            self.assertEqual(len(threes), count * (count - 1) // 6)
            table = {}
            for three in threes:
                for a, b, c in permutations(three):
                    self.assertNotIn((a, b), table)
                    table[a, b] = c
            self.assertEqual(len(table), count * (count - 1))
            for (a, b), c in table.items():
                self.assertEqual(third(tree, a, b), c, (tree, a, b))
                self.assertEqual(product(tree, a, b), c)

    def test_arguments_stay(self):
        for tree in SMALL:
            count = points_in(tree)
            if count > 1:
                last = unchanged(self, third, tree, 0, count - 1)
                self.assertEqual(unchanged(self, product, tree, count - 1, 0), last)
                self.assertIs(unchanged(self, are_three, tree, [count - 1, last, 0]), True)
                unchanged(self, through, tree, count - 1)

    def test_great_systems(self):
        for tree in GREAT:
            for a in ends(tree):
                for b in ends(tree):
                    if a != b:
                        c = third(tree, a, b)
                        self.assertTrue(is_three(tree, [a, b, c]), (tree, a, b))
                        self.assertEqual(third(tree, c, a), b)
                        self.assertEqual(product(tree, b, c), a)
                        self.assertIs(are_three(tree, (c, b, a)), True)

    def test_product_of_one_point(self):
        for tree in SMALL:
            for point in range(points_in(tree)):
                self.assertEqual(product(tree, point, point), point)
        for tree in GREAT:
            for point in ends(tree):
                self.assertEqual(product(tree, point, point), point)


class Rules(unittest.TestCase):
    def test_bose(self):
        for n in (3, 9, 15, 21, 10 ** 30 - 1):
            m = n // 3
            numbers = sorted({x for x in (0, 1, 2, m // 2, m - 2, m - 1) if 0 <= x < m})
            for i in range(3):
                j = (i + 1) % 3
                for x in numbers:
                    for y in numbers:
                        if x == y:
                            self.assertEqual(third(("bose", n), x + m * i, x + m * j), x + m * ((i + 2) % 3))
                        else:
                            made = (x + y) * (m + 1) // 2 % m
                            self.assertEqual(third(("bose", n), x + m * i, y + m * i), made + m * j)
                            self.assertEqual(third(("bose", n), x + m * i, y + m * j), (2 * y - x) % m + m * i)
                            self.assertEqual(third(("bose", n), y + m * j, x + m * i), (2 * y - x) % m + m * i)

    def test_skolem_odd_point(self):
        for n in (7, 13, 19, 10 ** 30 - 3):
            m = (n - 1) // 3
            t = m // 2
            tree = ("skolem", n)
            for i in range(3):
                for x in sorted({0, t - 1, t // 2, t, m - 1, (t + m) // 2}):
                    last = x - t + m * ((i + 1) % 3) if x >= t else x + t + m * ((i - 1) % 3)
                    self.assertEqual(third(tree, x + m * i, n - 1), last)
                    self.assertEqual(third(tree, n - 1, x + m * i), last)
                    self.assertEqual(third(tree, last, x + m * i), n - 1)

    def test_skolem_levels(self):
        for n in (7, 13, 19, 25):
            m = (n - 1) // 3
            t = m // 2
            tree = ("skolem", n)
            for i in range(3):
                j = (i + 1) % 3
                for x in range(m):
                    for y in range(m):
                        if x != y:
                            self.assertEqual(third(tree, x + m * i, y + m * i), skolem_made(m, x, y) + m * j)
                        if x == y and x < t:
                            last = x + m * ((i + 2) % 3)
                        elif x >= t and y == x - t:
                            last = n - 1
                        else:
                            last = [z for z in range(m) if skolem_made(m, x, z) == y][0] + m * i
                        self.assertEqual(third(tree, x + m * i, y + m * j), last)
                        self.assertEqual(third(tree, y + m * j, x + m * i), last)

    def test_by_hand(self):
        self.assertEqual(third(("affine", 2), 5, 7), 0)     # 12 and 21 make 00
        self.assertEqual(third(("affine", 3), 0, 1), 2)
        self.assertEqual(third(("affine", 60), 0, 3 ** 59), 2 * 3 ** 59)
        self.assertEqual(third(("affine", 60), 3 ** 60 - 1, 0), (3 ** 60 - 1) // 2)
        self.assertEqual(third(("binary", 3), 0, 1), 2)     # 001, 010 and 011
        self.assertEqual(third(("binary", 99), 2 ** 99 - 2, 0), 2 ** 99 - 3)
        self.assertEqual(third(("listed", 7, FANO), 4, 2), 5)
        self.assertEqual(third(("listed", 9, NINE), 8, 3), 1)

    def test_doubles(self):
        for part in (("bose", 9), ("skolem", 7), ("listed", 7, FANO), ("binary", 98)):
            v = points_in(part)
            tree = ("double", part)
            points = [0, 1, 5, v - 1]
            for a in points:
                self.assertEqual(third(tree, a, a + v), 2 * v)
                self.assertEqual(third(tree, 2 * v, a), a + v)
                self.assertEqual(third(tree, 2 * v, a + v), a)
                for b in points:
                    if a != b:
                        c = third(part, a, b)
                        self.assertEqual(third(tree, a, b), c)
                        self.assertEqual(third(tree, a + v, b + v), c)
                        self.assertEqual(third(tree, a, b + v), c + v)
                        self.assertEqual(third(tree, a + v, b), c + v)

    def test_products(self):
        for first, second in ((("bose", 9), ("skolem", 7)), (("binary", 2), ("listed", 9, NINE)),
                              (("affine", 30), ("affine", 29))):
            v, w = points_in(first), points_in(second)
            tree = ("product", first, second)
            pairs = [(a, b) for a in (0, 1, v - 1) for b in (0, 2, w - 1)]
            for a, b in pairs:
                for x, y in pairs:
                    if (a, b) != (x, y):
                        last = product(first, a, x) * w + product(second, b, y)
                        self.assertEqual(third(tree, a * w + b, x * w + y), last)


class Threes(unittest.TestCase):
    def test_are_three(self):
        for tree in SMALL:
            count = points_in(tree)
            if count > 9:
                continue
            for a in range(count):
                for b in range(count):
                    for c in range(count):
                        self.assertIs(are_three(tree, [a, b, c]), is_three(tree, (a, b, c)))

    def test_a_point_twice(self):
        for tree in SMALL + GREAT:
            last = points_in(tree) - 1
            for points in ((0, 0, last), (0, last, 0), (last, 0, 0), (0, 0, 0), (last, last, last)):
                self.assertIs(are_three(tree, points), False)

    def test_through(self):
        for tree in SMALL:
            threes = threes_by_search(tree)
            for point in range(points_in(tree)):
                self.assertEqual(repr(unchanged(self, through, tree, point)),
                                 repr([three for three in threes if point in three]))

    def test_limit_of_through(self):
        for tree in SMALL + [("bose", 603), ("double", ("skolem", 301))]:
            many = (points_in(tree) - 1) // 2
            for point in (0, points_in(tree) - 1):
                self.assertEqual(len(through(tree, point, limit=many)), many)
                self.assertEqual(len(through(tree, point, limit=many + 1)), many)
                if many > 0:
                    self.assertEqual(raised(self, TooMany, through, tree, point, limit=many - 1).limit, many - 1)

    def test_limit_as_it_stands(self):
        self.assertEqual(len(through(("skolem", 3997), 0)), 1998)
        self.assertEqual(len(through(("bose", 3999), 5)), 1999)
        self.assertEqual(raised(self, TooMany, through, ("bose", 4005), 0).limit, 2000)
        for tree in GREAT:
            self.assertEqual(raised(self, TooMany, through, tree, 1).limit, 2000)
            self.assertEqual(raised(self, TooMany, through, tree, 1, limit=0).limit, 0)

    def test_limits_go_by_name(self):
        with self.assertRaises(TypeError):
            through(("bose", 9), 0, 5)

    def test_lists_are_new(self):
        told = through(("bose", 9), 0)
        told.clear()
        self.assertEqual(len(through(("bose", 9), 0)), 4)


class Errors(unittest.TestCase):
    def test_no_trees(self):
        for tree in NO_TREES:
            raised(self, InvalidSystem, third, tree, -1, -1)
            raised(self, InvalidSystem, third, tree, 0, 1)
            raised(self, InvalidSystem, product, tree, 0, -1)
            raised(self, InvalidSystem, are_three, tree, [0])
            raised(self, InvalidSystem, are_three, tree, [0, -1, 2])
            raised(self, InvalidSystem, through, tree, -1, limit=0)

    def test_unknown_points(self):
        for tree in SMALL + GREAT:
            beyond = points_in(tree)
            for point in (-1, beyond, -10 ** 40, 10 ** 40):
                for call, told in ((third, (point, 0)), (third, (0, point)), (third, (point, point)),
                                   (third, (point, beyond + 1)), (product, (point, 0)), (product, (0, point)),
                                   (product, (point, -2)), (are_three, ([point, 0, 0],)), (are_three, ([0, point],)),
                                   (are_three, ([0, 0, point, -3],)), (are_three, ((0, 0, 0, point),)),
                                   (through, (point,))):
                    self.assertEqual(raised(self, UnknownPoint, call, tree, *told).point, point)
            self.assertEqual(raised(self, UnknownPoint, through, tree, beyond, limit=0).point, beyond)

    def test_questions(self):
        for tree in SMALL + GREAT:
            last = points_in(tree) - 1
            raised(self, InvalidQuestion, third, tree, 0, 0)
            raised(self, InvalidQuestion, third, tree, last, last)
            for points in ([], (), [0], [0, last], (0, last, 0, last), [0, 0, 0, 0]):
                raised(self, InvalidQuestion, are_three, tree, points)

    def test_one_point(self):
        tree = ("listed", 1, [])
        self.assertEqual(product(tree, 0, 0), 0)
        self.assertEqual(through(tree, 0, limit=0), [])
        self.assertIs(are_three(tree, [0, 0, 0]), False)

    def test_made_trees_are_systems(self):
        for tree in MADE:
            self.assertEqual(size(checked(tree)), points_in(tree))
