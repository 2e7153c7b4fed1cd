import os
import unittest

import paironce
from paironce.errors import InvalidQuestion, InvalidSystem, UnknownPoint
from paironce.systems import (arms_of, built, check_point, checked, exists, is_system, part_count, size,
                              three_count, threes_at)
from helper import (FANO, GREAT, NINE, NO_TREES, SMALL, doubled, points_in, raised, run_examples,
                    threes_by_search, unchanged)

LIMIT = 10 ** 30


def as_tuples(tree):
    """The tree in tuples, with ascending threes, by point 5."""
    if tree[0] == "listed":
        return ("listed", tree[1], tuple(tuple(sorted(three)) for three in tree[2]))
    if tree[0] in ("double", "product"):
        return (tree[0],) + tuple(as_tuples(arm) for arm in tree[1:])
    return tuple(tree)


def as_lists(tree):
    if tree[0] == "listed":
        return ["listed", tree[1], [list(three) for three in tree[2]]]
    if tree[0] in ("double", "product"):
        return [tree[0]] + [as_lists(arm) for arm in tree[1:]]
    return list(tree)


def parts_in(tree):
    if tree[0] in ("double", "product"):
        return 1 + sum(parts_in(arm) for arm in tree[1:])
    return 1


class Package(unittest.TestCase):
    def test_defines_nothing(self):
        with open(paironce.__file__, encoding="utf-8") as held:
            self.assertEqual(held.read(), "")
        self.assertEqual(os.path.basename(paironce.__file__), "__init__.py")


class Trees(unittest.TestCase):
    def test_examples(self):
        run_examples(self, """
>>> from paironce.systems import arms_of, built, exists, is_system, size, three_count
>>> tree = ("product", ("affine", 1), ("double", ("skolem", 7)))
>>> (size(tree), three_count(tree), arms_of(tree)[0], [count for count in range(20) if exists(count)])
(45, 330, ('affine', 1), [1, 3, 7, 9, 13, 15, 19])
>>> (is_system(("listed", 3, [(2, 0, 1)])), is_system(("listed", 3, [])), is_system(("bose", 7)))
(True, False, False)
>>> built(11)
raises InvalidQuestion
""")

    def test_each_kind_as_tuples_and_lists(self):
        for tree in SMALL + GREAT:
            told = as_tuples(tree)
            for form in (tree, told, as_lists(tree)):
                self.assertIs(unchanged(self, is_system, form), True)
                self.assertEqual(repr(unchanged(self, checked, form)), repr(told))

    def test_counts(self):
        for tree in SMALL + GREAT:
            count = points_in(tree)
            self.assertEqual(unchanged(self, size, tree), count)
            self.assertEqual(unchanged(self, three_count, tree), count * (count - 1) // 6)
            self.assertEqual(unchanged(self, threes_at, tree), (count - 1) // 2)
            self.assertEqual(unchanged(self, part_count, tree), parts_in(tree))

    def test_counts_by_hand(self):
        self.assertEqual((size(("affine", 4)), size(("binary", 4)), size(("double", ("skolem", 7)))), (81, 15, 15))
        self.assertEqual((three_count(("listed", 1, ())), threes_at(("listed", 1, ()))), (0, 0))
        self.assertEqual((three_count(("bose", 9)), threes_at(("bose", 9))), (12, 4))
        self.assertEqual(size(("product", ("bose", 9), ("skolem", 13))), 117)
        self.assertEqual(size(("double", ("double", ("listed", 1, ())))), 7)

    def test_arms(self):
        for tree in SMALL + GREAT:
            arms = tree[1:] if tree[0] in ("double", "product") else ()
            told = unchanged(self, arms_of, tree)
            self.assertEqual(repr(told), repr(tuple(as_tuples(arm) for arm in arms)))

    def test_order_of_listed_threes_stays(self):
        told = checked(["listed", 7, FANO])
        self.assertEqual(told, ("listed", 7, ((0, 1, 2), (0, 3, 4), (0, 5, 6), (1, 3, 5), (1, 4, 6), (2, 3, 6),
                                              (2, 4, 5))))
        turned = checked(("double", ("listed", 7, FANO[::-1])))
        self.assertEqual(turned[1][2], told[2][::-1])

    def test_what_is_kept_is_a_copy(self):
        threes = [[2, 1, 0]]
        tree = ["double", ["listed", 3, threes]]
        told = checked(tree)
        threes[0][0] = 5
        tree[1] = ("bose", 9)
        self.assertEqual(told, ("double", ("listed", 3, ((0, 1, 2),))))

    def test_least_and_greatest_integers(self):
        for tree in (("bose", 3), ("bose", LIMIT - 1), ("skolem", 7), ("skolem", LIMIT - 3), ("affine", 1),
                     ("affine", 60), ("binary", 2), ("binary", 99), ("listed", 1, [])):
            self.assertTrue(is_system(tree), tree)
        for tree in (("bose", -3), ("bose", LIMIT + 5), ("skolem", 1), ("skolem", LIMIT + 3), ("affine", 0),
                     ("affine", 61), ("binary", 1), ("binary", 100), ("listed", 0, [])):
            self.assertFalse(is_system(tree), tree)

    def test_rests_by_six(self):
        for number in range(-10, 40):
            self.assertEqual(is_system(("bose", number)), number >= 3 and number % 6 == 3)
            self.assertEqual(is_system(("skolem", number)), number >= 7 and number % 6 == 1)
            self.assertEqual(is_system(("affine", number)), number >= 1)
            self.assertEqual(is_system(("binary", number)), number >= 2)

    def test_greatest_listed_systems(self):
        for tree in (("skolem", 55), ("bose", 57)):
            threes = threes_by_search(tree)
            listed = ("listed", tree[1], threes[::-1])
            self.assertEqual(checked(listed), ("listed", tree[1], tuple(threes[::-1])))
            self.assertFalse(is_system(("listed", tree[1], threes[1:])))
            self.assertFalse(is_system(("listed", tree[1], threes[1:] + threes[-1:])))
        threes = threes_by_search(("skolem", 61))
        raised(self, InvalidSystem, checked, ("listed", 61, threes))
        raised(self, InvalidSystem, checked, ("listed", 60, [three for three in threes if 60 not in three]))
        raised(self, InvalidSystem, checked, ("listed", 60, threes[:590]))

    def test_number_of_parts(self):
        self.assertEqual(part_count(doubled(("bose", 3), 11)), 12)
        self.assertFalse(is_system(doubled(("bose", 3), 12)))
        pairs = ("bose", 3)
        for _ in range(5):
            pairs = ["product", pairs, ("affine", 1)]
        self.assertEqual((part_count(pairs), size(pairs)), (11, 3 ** 6))
        self.assertEqual(part_count(["double", pairs]), 12)
        self.assertFalse(is_system(("double", ["double", pairs])))
        self.assertFalse(is_system(["product", pairs, ("listed", 1, ())]))
        same = ("product", ("bose", 3), ("bose", 3))
        self.assertEqual(part_count(("product", same, same)), 7)

    def test_far_too_many_parts(self):
        self.assertFalse(is_system(doubled(("listed", 1, ()), 20000)))
        turned = ["double"]
        turned.append(turned)
        self.assertFalse(is_system(turned))

    def test_number_of_points(self):
        self.assertEqual(size(("double", ("skolem", 5 * 10 ** 29 - 1))), LIMIT - 1)
        self.assertFalse(is_system(("double", ("bose", 5 * 10 ** 29 + 1))))
        self.assertEqual(size(("product", ("skolem", 10 ** 15 + 3), ("skolem", 10 ** 15 - 3))), LIMIT - 9)
        self.assertFalse(is_system(("product", ("skolem", 10 ** 15 + 3), ("bose", 10 ** 15 - 1))))
        self.assertEqual(size(doubled(("binary", 90), 9)), 2 ** 99 - 1)
        self.assertFalse(is_system(doubled(("binary", 90), 10)))

    def test_no_trees(self):
        for tree in NO_TREES:
            self.assertIs(unchanged(self, is_system, tree), False, tree)
            for asked in (checked, size, three_count, threes_at, part_count, arms_of):
                raised(self, InvalidSystem, asked, tree)
            raised(self, InvalidSystem, check_point, tree, 0)
            raised(self, InvalidSystem, check_point, tree, -1)
            self.assertFalse(is_system(("double", tree)))
            self.assertFalse(is_system(("product", tree, ("bose", 3))))
            self.assertFalse(is_system(["product", ("bose", 3), tree]))

    def test_one_pair_wrong(self):
        for at in range(12):
            a, b, c = NINE[at]
            for three in ((a, b, (c + 1) % 9), (a, b), (a, b, c, c), (a, a, c), (a, b, 9), (a, b, -1)):
                self.assertFalse(is_system(("listed", 9, NINE[:at] + [three] + NINE[at + 1:])), three)


class Points(unittest.TestCase):
    def test_points_that_there_are(self):
        for tree in SMALL + GREAT:
            for point in (0, points_in(tree) - 1, points_in(tree) // 2):
                self.assertIsNone(unchanged(self, check_point, tree, point))

    def test_points_that_there_are_not(self):
        for tree in SMALL + GREAT:
            for point in (-1, points_in(tree), points_in(tree) + 1, -10 ** 40, 10 ** 40):
                self.assertEqual(raised(self, UnknownPoint, check_point, tree, point).point, point)


class Counts(unittest.TestCase):
    def test_exists(self):
        for count in (-5, -3, 0, 2, 4, 5, 6, 8, 10, 11, 12, 14, LIMIT, LIMIT - 2, LIMIT + 1, 10 ** 60):
            self.assertIs(exists(count), False)
        for count in (1, 3, 7, 9, 13, 15, 19, 21, LIMIT - 1, LIMIT - 3, LIMIT + 3, LIMIT + 5, 10 ** 60 + 3):
            self.assertIs(exists(count), True)

    def test_built(self):
        self.assertEqual(built(1), ("listed", 1, ()))
        for count in range(-12, 200):
            if count > 1 and count % 6 in (1, 3):
                told = built(count)
                self.assertEqual(told, ("bose" if count % 6 == 3 else "skolem", count))
                self.assertEqual(size(told), count)
            elif count != 1:
                raised(self, InvalidQuestion, built, count)

    def test_built_at_the_greatest(self):
        self.assertEqual(built(LIMIT - 1), ("bose", LIMIT - 1))
        self.assertEqual(built(LIMIT - 3), ("skolem", LIMIT - 3))
        for count in (LIMIT - 2, LIMIT, LIMIT + 1, LIMIT + 3, LIMIT + 5, 10 ** 60 + 3):
            raised(self, InvalidQuestion, built, count)
