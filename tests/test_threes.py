import unittest
from itertools import combinations, permutations

from paironce.errors import InvalidQuestion, InvalidSystem, TooMany, UnknownPoint
from paironce.systems import three_count
from paironce.thirds import third
from paironce.threes import all_threes, number_of, three_at
from helper import (FANO, GREAT, MADE, NINE, NO_TREES, SMALL, affine_place, binary_place, is_three, points_in, raised,
                    run_examples, threes_by_search, threes_in_order, unchanged)


def ends(tree):
    """Some numbers of threes, at both ends and where the orders of points 23 to 27 turn."""
    count = three_count(tree)
    told = [0, 1, 2, 3, 5, count // 2, count // 3, count // 7, count // 4, count - 1, count - 2, count - 5]
    if tree[0] in ("bose", "skolem"):
        m = tree[1] // 3
        turns = [m, m // 2, 2 * m, m + m * (m - 1) // 2, 2 * m + m * (m - 1) // 2, m + m * (m - 1)]
        told += [turn + step for turn in turns for step in (-1, 0, 1)]
    if tree[0] == "product":
        v, w = points_in(tree[1]), points_in(tree[2])
        turns = [v * (w * (w - 1) // 6), v * (w * (w - 1) // 6) + w * (v * (v - 1) // 6)]
        told += [turn + step for turn in turns for step in range(-2, 8)]
    if tree[0] == "double":
        told += [points_in(tree[1]) + step for step in range(-2, 6)]
    return sorted({number for number in told if 0 <= number < count})


class Numbers(unittest.TestCase):
    def test_examples(self):
        run_examples(self, """
>>> from paironce.threes import all_threes, number_of
>>> all_threes(("skolem", 7))
[(0, 2, 4), (1, 2, 6), (3, 4, 6), (0, 5, 6), (0, 1, 3), (2, 3, 5), (1, 4, 5)]
>>> number_of(("affine", 2), (8, 4, 0))
6
""")

    def test_orders_of_small_systems(self):
        for tree in SMALL:
            told = threes_in_order(tree)
            self.assertEqual(sorted(told), threes_by_search(tree))
            self.assertEqual(repr(unchanged(self, all_threes, tree, limit=len(told))), repr(told))
            for number, three in enumerate(told):
                self.assertEqual(repr(unchanged(self, three_at, tree, number)), repr(three))
                for points in permutations(three):
                    self.assertEqual(number_of(tree, points), number)
            if told:
                self.assertEqual(unchanged(self, number_of, tree, list(told[-1])[::-1]), len(told) - 1)

    def test_doubles_and_products_of_all(self):
        parts = [("bose", 9), ("skolem", 7), ("affine", 2), ("binary", 3), ("listed", 7, FANO[::-1]),
                 ("listed", 9, NINE[3:] + NINE[:3]), ("double", ("bose", 3)), ("listed", 1, ()),
                 ("product", ("affine", 1), ("binary", 2))]
        for first in parts:
            trees = [("double", first)] + [("product", first, second) for second in parts]
            for tree in trees:
                told = threes_in_order(tree)
                self.assertEqual(all_threes(tree, limit=3000), told)
                for number, three in enumerate(told):
                    self.assertEqual(number_of(tree, three[::-1]), number)

    def test_more_bose_and_skolem(self):
        for tree in (("bose", 27), ("bose", 33), ("skolem", 31), ("skolem", 37), ("binary", 6), ("affine", 4)):
            told = threes_in_order(tree)
            self.assertEqual(all_threes(tree), told)
            for number, three in enumerate(told):
                self.assertEqual(number_of(tree, three), number)

    def test_orders_by_hand(self):
        self.assertEqual(all_threes(("bose", 9)), [
            (0, 3, 6), (1, 4, 7), (2, 5, 8), (0, 1, 5), (0, 2, 4), (1, 2, 3),
            (3, 4, 8), (3, 5, 7), (4, 5, 6), (2, 6, 7), (1, 6, 8), (0, 7, 8)])
        self.assertEqual(all_threes(("affine", 2)), [
            (0, 1, 2), (3, 4, 5), (6, 7, 8), (0, 3, 6), (1, 4, 7), (2, 5, 8),
            (0, 4, 8), (1, 5, 6), (2, 3, 7), (0, 5, 7), (1, 3, 8), (2, 4, 6)])
        self.assertEqual(all_threes(("binary", 3)), [
            (0, 1, 2), (0, 3, 4), (0, 5, 6), (1, 3, 5), (1, 4, 6), (2, 3, 6), (2, 4, 5)])
        self.assertEqual(all_threes(("double", ("bose", 3))), [
            (0, 3, 6), (1, 4, 6), (2, 5, 6), (0, 1, 2), (0, 4, 5), (1, 3, 5), (2, 3, 4)])
        told = all_threes(("product", ("bose", 3), ("affine", 1)))
        self.assertEqual(told, [
            (0, 1, 2), (3, 4, 5), (6, 7, 8), (0, 3, 6), (1, 4, 7), (2, 5, 8),
            (0, 4, 8), (0, 5, 7), (1, 3, 8), (1, 5, 6), (2, 3, 7), (2, 4, 6)])
        self.assertEqual(all_threes(("listed", 3, [(2, 0, 1)])), [(0, 1, 2)])

    def test_great_systems_there_and_back(self):
        for tree in GREAT:
            for number in ends(tree):
                three = three_at(tree, number)
                self.assertIsInstance(three, tuple)
                self.assertEqual(list(three), sorted(three))
                self.assertTrue(is_three(tree, three), (tree, number))
                for points in permutations(three):
                    self.assertEqual(number_of(tree, points), number)

    def test_great_systems_from_points(self):
        for tree in GREAT:
            count = points_in(tree)
            points = [0, 1, 5, count // 3, count // 2, count - 3, count - 1]
            for a, b in combinations(points, 2):
                three = tuple(sorted((a, b, third(tree, a, b))))
                number = number_of(tree, three)
                self.assertTrue(0 <= number < three_count(tree))
                self.assertEqual(three_at(tree, number), three)

    def test_great_orders_by_hand(self):
        n = 10 ** 30 - 1
        m = n // 3
        self.assertEqual(three_at(("bose", n), m - 1), (m - 1, 2 * m - 1, n - 1))
        self.assertEqual(three_at(("bose", n), m), (0, 1, (m + 1) // 2 + m))
        last = (2 * m - 3) * (m + 1) // 2 % m
        self.assertEqual(three_at(("bose", n), three_count(("bose", n)) - 1), (last, n - 2, n - 1))
        n = 10 ** 30 - 3
        m = (n - 1) // 3
        t = m // 2
        self.assertEqual(three_at(("skolem", n), t - 1), (t - 1, t - 1 + m, t - 1 + 2 * m))
        self.assertEqual(three_at(("skolem", n), t), (t, m, n - 1))
        self.assertEqual(three_at(("skolem", n), 4 * t - 1), (t - 1, n - 2, n - 1))
        self.assertEqual(three_at(("skolem", n), 4 * t), (0, 1, t + m))
        self.assertEqual(three_at(("affine", 60), 0), (0, 1, 2))
        self.assertEqual(three_at(("affine", 60), 3 ** 59), (0, 3, 6))
        self.assertEqual(number_of(("affine", 60), (0, 3 ** 59, 2 * 3 ** 59)), (3 ** 59 - 1) // 2 * 3 ** 59)
        self.assertEqual(three_at(("binary", 99), 0), (0, 1, 2))
        self.assertEqual(number_of(("binary", 99), (0, 2 ** 98 - 1, 2 ** 98)), three_count(("binary", 98)))

    def test_great_orders_by_their_rules(self):
        for tree, place in ((("affine", 60), lambda three: affine_place(60, three)), (("binary", 99), binary_place)):
            told = [place(three_at(tree, number)) for number in ends(tree)]
            self.assertEqual(told, sorted(told))


class Limits(unittest.TestCase):
    def test_limit_at_the_number_of_threes(self):
        for tree in SMALL + [("bose", 63)]:
            count = three_count(tree)
            self.assertEqual(len(all_threes(tree, limit=count)), count)
            self.assertEqual(len(all_threes(tree, limit=count + 1)), count)
            if count > 0:
                self.assertEqual(raised(self, TooMany, all_threes, tree, limit=count - 1).limit, count - 1)

    def test_limit_as_it_stands(self):
        self.assertEqual(len(all_threes(("skolem", 109))), 1962)
        self.assertEqual(raised(self, TooMany, all_threes, ("bose", 111)).limit, 2000)
        for tree in GREAT:
            self.assertEqual(raised(self, TooMany, all_threes, tree).limit, 2000)
            self.assertEqual(raised(self, TooMany, all_threes, tree, limit=0).limit, 0)
        with self.assertRaises(TypeError):
            all_threes(("bose", 9), 100)

    def test_lists_are_new(self):
        tree = ("listed", 7, [list(three) for three in FANO])
        told = all_threes(tree)
        told.pop()
        self.assertEqual(len(all_threes(tree)), 7)


class Errors(unittest.TestCase):
    def test_no_trees(self):
        for tree in NO_TREES:
            raised(self, InvalidSystem, three_at, tree, -1)
            raised(self, InvalidSystem, three_at, tree, 0)
            raised(self, InvalidSystem, number_of, tree, (-1, 0))
            raised(self, InvalidSystem, number_of, tree, (0, 1, 2))
            raised(self, InvalidSystem, all_threes, tree, limit=0)

    def test_numbers_that_there_are_not(self):
        for tree in SMALL + GREAT:
            count = three_count(tree)
            for number in (-1, count, count + 1, -10 ** 70, 10 ** 70):
                raised(self, InvalidQuestion, three_at, tree, number)

    def test_unknown_points(self):
        for tree in SMALL + GREAT:
            for point in (-1, points_in(tree), -10 ** 40, 10 ** 40):
                for points in ([point], (0, point), (point, 0, 0), (0, 0, point), (0, point, -7), (0, 0, 0, point),
                               (point, point, point)):
                    self.assertEqual(raised(self, UnknownPoint, number_of, tree, points).point, point)

    def test_no_threes(self):
        for tree in SMALL + GREAT:
            last = points_in(tree) - 1
            for points in ((), [0], [0, last], (0, 0, 0), (0, 0, last), (last, 0, last), (0, last, last),
                           (0, last, 0, last)):
                raised(self, InvalidQuestion, number_of, tree, points)

    def test_three_points_that_are_no_three(self):
        for tree in SMALL:
            threes = threes_by_search(tree)
            for points in combinations(range(min(points_in(tree), 13)), 3):
                if points not in threes:
                    raised(self, InvalidQuestion, number_of, tree, points[::-1])
        for tree in GREAT:
            last = third(tree, 0, 1)
            wrong = 2 if last != 2 else 3
            raised(self, InvalidQuestion, number_of, tree, (0, 1, wrong))
            raised(self, InvalidQuestion, number_of, tree, [0, 1, last, wrong])

    def test_made_trees_have_each_three_once(self):
        for tree in MADE:
            self.assertEqual(len(set(all_threes(tree))), three_count(tree))
