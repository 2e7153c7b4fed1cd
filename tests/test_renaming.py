import random
import unittest
from itertools import permutations

from paironce.errors import InvalidQuestion, InvalidSystem
from paironce.renaming import listed, one_after_another, renamed, rings, same_threes, turned_back
from paironce.systems import checked, is_system
from helper import FANO, GREAT, NINE, NO_TREES, SMALL, doubled, points_in, raised, run_examples, threes_by_search, unchanged

MANY = [tree for tree in SMALL if points_in(tree) <= 60] + [
    ("bose", 57), ["skolem", 55], ("product", ["skolem", 7], ("listed", 7, FANO)), ("double", ["affine", 3]),
    ("product", ("affine", 1), ("skolem", 19)), ("binary", 5),
]
# Found once, as the search takes long.
THREES = {repr(tree): threes_by_search(tree) for tree in MANY}
BEYOND = GREAT + [("skolem", 61), ["bose", 63], ("affine", 4), ("binary", 6), ("double", ("binary", 5)), ("product", ("skolem", 7), ("bose", 9))]

# What are no names of any number of points.
NO_NAMES = ([1], (1,), [-1], [0, 0], (1, 1), [0, 2], [1, 2], [2, 0, 0], (0, 1, 3), [-1, 0, 1], [0, 1, 2, 2], [3, 1, 2, 4], [10 ** 40],
            [0, -10 ** 40], [0, 1, 2, 3, 4, 5, 5], [1, 2, 3, 4, 5, 6, 7])


def renamed_by_words(tree, names):
    return ("listed", points_in(tree), tuple(sorted(tuple(sorted(names[point] for point in three)) for three in THREES[repr(tree)])))


def some_names(count, chance):
    names = list(range(count))
    told = [list(names), names[::-1], names[1:] + names[:1]]
    for _ in range(3):
        chance.shuffle(names)
        told.append(list(names))
    return told + [tuple(row) for row in told[-2:]]


class Listed(unittest.TestCase):
    def test_examples(self):
        run_examples(self, """
>>> from paironce.renaming import listed, renamed, rings, turned_back
>>> listed(("affine", 1))
('listed', 3, ((0, 1, 2),))
>>> renamed(("binary", 3), [1, 0, 2, 3, 4, 5, 6])[2][:2]
((0, 1, 2), (0, 3, 5))
>>> (rings([2, 1, 0]), turned_back([1, 2, 0]))
([(0, 2), (1,)], (2, 0, 1))
>>> renamed(("bose", 63), [])
raises InvalidQuestion
""")

    def test_listed(self):
        for tree in MANY:
            told = unchanged(self, listed, tree)
            self.assertEqual(repr(told), repr(("listed", points_in(tree), tuple(THREES[repr(tree)]))))
            self.assertTrue(is_system(told))
            self.assertEqual(listed(told), told)

    def test_order_of_listed_threes(self):
        self.assertEqual(listed(("listed", 7, FANO[::-1])), listed(("listed", 7, tuple(FANO))))
        self.assertNotEqual(checked(("listed", 9, NINE)), listed(("listed", 9, NINE)))

    def test_same_threes(self):
        for tree in MANY:
            self.assertIs(unchanged(self, same_threes, tree, listed(tree)), True)
            self.assertIs(unchanged(self, same_threes, list(listed(tree)), tree), True)
            self.assertIs(same_threes(tree, tree), True)
        for one in MANY[::2]:
            for other in MANY[::3]:
                told = points_in(one) == points_in(other) and THREES[repr(one)] == THREES[repr(other)]
                self.assertIs(same_threes(one, other), told, (one, other))
        self.assertIs(same_threes(("binary", 2), ("affine", 1)), True)
        self.assertIs(same_threes(("skolem", 7), ("binary", 3)), False)
        self.assertIs(same_threes(("product", ("affine", 1), ("affine", 1)), ("affine", 2)), True)
        self.assertIs(same_threes(("skolem", 7), ("skolem", 13)), False)
        self.assertIs(same_threes(("listed", 9, NINE), ("listed", 9, [three[::-1] for three in NINE[::-1]])), True)

    def test_no_systems(self):
        for tree in NO_TREES:
            raised(self, InvalidSystem, listed, tree)
            for names in ([], [0], [0, 1, 2], [5, 5]):
                raised(self, InvalidSystem, renamed, tree, names)
            for other in (("bose", 9), ("bose", 63), ("bose", 4)):
                raised(self, InvalidSystem, same_threes, tree, other)
            raised(self, InvalidSystem, same_threes, ("bose", 9), tree)

    def test_more_than_60_points(self):
        for tree in BEYOND:
            raised(self, InvalidQuestion, listed, tree)
            raised(self, InvalidQuestion, renamed, tree, [])
            raised(self, InvalidQuestion, renamed, tree, [0, 1, 2])
            # Both errors are looked for at the first system, and then at the second one.
            for other in (("bose", 9), ("bose", 63), ("bose", 4), ()):
                raised(self, InvalidQuestion, same_threes, tree, other)
            raised(self, InvalidQuestion, same_threes, ("listed", 1, []), tree)
        raised(self, InvalidSystem, listed, doubled(("bose", 9), 12))
        raised(self, InvalidQuestion, renamed, ("bose", 63), list(range(63)))


class Names(unittest.TestCase):
    def test_renamed(self):
        chance = random.Random(8)
        for tree in MANY:
            for names in some_names(points_in(tree), chance):
                told = unchanged(self, renamed, tree, names)
                self.assertEqual(repr(told), repr(renamed_by_words(tree, names)))
            self.assertTrue(is_system(told))
            self.assertEqual(renamed(tree, range_of(tree)), listed(tree))

    def test_renamed_back(self):
        chance = random.Random(9)
        for tree in MANY:
            for names in some_names(points_in(tree), chance):
                self.assertEqual(renamed(renamed(tree, names), turned_back(names)), listed(tree))
                others = some_names(points_in(tree), chance)[4]
                self.assertEqual(renamed(renamed(tree, names), others), renamed(tree, one_after_another(names, others)))

    def test_another_number_of_names(self):
        for tree in MANY:
            count = points_in(tree)
            for names in (range_of(tree)[1:], range_of(tree) + [count], [], [0] * (count + 1), [5] * (count - 1)):
                if len(names) != count:
                    raised(self, InvalidQuestion, renamed, tree, names)
                    raised(self, InvalidQuestion, renamed, tree, tuple(names))

    def test_no_names_of_points(self):
        for tree in MANY:
            count = points_in(tree)
            for names in ([0] * count, range_of(tree)[:-1] + [count], [-1] + range_of(tree)[1:], [count] + range_of(tree)[1:],
                          range_of(tree)[:-1] + [0], [point - 1 for point in range(count)], [point + 1 for point in range(count)]):
                if sorted(names) != list(range(count)):
                    raised(self, InvalidQuestion, renamed, tree, names)

    def test_turned_back(self):
        chance = random.Random(10)
        for count in (0, 1, 2, 3, 5, 8, 60, 61, 700):
            for names in some_names(count, chance):
                told = unchanged(self, turned_back, names)
                self.assertIs(type(told), tuple)
                self.assertEqual([told[name] for name in names], list(range(count)))
                self.assertEqual(turned_back(told), tuple(names))
        self.assertEqual((turned_back([]), turned_back(())), ((), ()))
        self.assertEqual(turned_back([2, 0, 1]), (1, 2, 0))

    def test_one_after_another(self):
        chance = random.Random(11)
        for count in (0, 1, 2, 3, 5, 8, 61, 700):
            rows = some_names(count, chance)
            for first in rows:
                for second in rows:
                    told = unchanged(self, one_after_another, first, second)
                    self.assertIs(type(told), tuple)
                    self.assertEqual(told, tuple(second[first[point]] for point in range(count)))
                self.assertEqual(one_after_another(first, turned_back(first)), tuple(range(count)))
        self.assertEqual(one_after_another([1, 0, 2], (0, 2, 1)), (2, 0, 1))
        self.assertEqual(one_after_another([], ()), ())

    def test_rings(self):
        for count in range(7):
            for names in permutations(range(count)):
                told = unchanged(self, rings, list(names))
                self.assertEqual(told, rings_by_words(names))
                self.assertEqual(repr(rings(names)), repr(told))
        self.assertEqual(rings([]), [])
        self.assertEqual(rings(()), [])
        self.assertEqual(rings([3, 1, 0, 2, 5, 4]), [(0, 3, 2), (1,), (4, 5)])
        great = list(range(1, 5000)) + [0]
        self.assertEqual(rings(great), [tuple(range(5000))])
        rings([0]).clear()
        self.assertEqual(rings([0]), [(0,)])

    def test_no_names(self):
        for names in NO_NAMES:
            raised(self, InvalidQuestion, turned_back, names)
            raised(self, InvalidQuestion, rings, names)
            for other in ([], [0], list(range(len(names))), names):
                raised(self, InvalidQuestion, one_after_another, names, other)
                raised(self, InvalidQuestion, one_after_another, other, names)

    def test_lists_of_unlike_length(self):
        for first in range(5):
            for second in range(5):
                if first != second:
                    raised(self, InvalidQuestion, one_after_another, list(range(first)), tuple(range(second)))


def range_of(tree):
    return list(range(points_in(tree)))


def rings_by_words(names):
    told = {}
    for point in range(len(names)):
        ring = [point]
        while names[ring[-1]] != point:
            ring.append(names[ring[-1]])
        if min(ring) == point:
            told[point] = tuple(ring)
    return [told[point] for point in sorted(told)]
