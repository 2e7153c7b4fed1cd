import random
import unittest
from itertools import combinations

from paironce.counts import all_rounds, counts_of, four_count, fours, rounds, shows_unlike
from paironce.errors import InvalidQuestion, InvalidSystem, UnknownPoint
from paironce.likenesses import likenesses
from paironce.renaming import renamed
from helper import (FANO, GREAT, NINE, NO_TREES, OTHER_THIRTEEN, SMALL, THIRTEEN, doubled, fours_in, points_in, raised,
                    run_examples, third_table, threes_by_search, unchanged)

A = ("listed", 13, THIRTEEN)
B = ["listed", 13, [three[::-1] for three in OTHER_THIRTEEN[::-1]]]
MANY = [tree for tree in SMALL if points_in(tree) <= 31] + [A, B, ("double", ("skolem", 7)), ("double", A)]
LITTLE = [tree for tree in MANY if points_in(tree) <= 15]
BEYOND = [("skolem", 61), ["bose", 63], ("affine", 4), ("binary", 6), ("double", ("binary", 5)), GREAT[0], GREAT[-1]]


def some_names(count, chance):
    names = list(range(count))
    chance.shuffle(names)
    return names


def fours_by_words(tree):
    """The number of fours at each point, by all sets of four threes."""
    told = fours_in(threes_by_search(tree))
    return [sum(any(point in three for three in four) for four in told) for point in range(points_in(tree))]


def rounds_by_walk(table, count, one, other):
    """The lengths of the rounds of two points, each walked from its least point on."""
    beside = [point for point in range(count) if point not in (one, other, table[one, other])]
    told = {}
    for first in beside:
        walk = [first]
        while len(walk) == 1 or len(walk) % 2 == 0 or walk[-1] != first:
            walk.append(table[(one, other)[(len(walk) - 1) % 2], walk[-1]])
        told[min(walk)] = len(walk) - 1
    return sorted(told.values())


def pairs_by_walk(tree):
    table = third_table(tree)
    told = [tuple(rounds_by_walk(table, points_in(tree), a, b)) for a, b in combinations(range(points_in(tree)), 2)]
    return sorted((lengths, told.count(lengths)) for lengths in set(told))


class Fours(unittest.TestCase):
    def test_examples(self):
        run_examples(self, """
>>> from paironce.counts import all_rounds, counts_of, four_count
>>> (four_count(("binary", 3)), all_rounds(("affine", 2)))
(7, [((6,), 36)])
>>> counts_of(("bose", 3))
(3, (0, 0, 0), (((), 3),))
""")

    def test_by_all_sets_of_four_threes(self):
        for tree in LITTLE:
            self.assertEqual(unchanged(self, fours, tree), fours_by_words(tree))
            self.assertEqual(unchanged(self, four_count, tree), len(fours_in(threes_by_search(tree))))

    def test_each_two_threes_of_a_four_meet(self):
        for tree in LITTLE:
            for four in fours_in(threes_by_search(tree)):
                for first, second in combinations(four, 2):
                    self.assertEqual(len(set(first) & set(second)), 1)

    def test_affine_and_binary_systems(self):
        for k in (1, 2, 3):
            self.assertEqual((four_count(("affine", k)), fours(("affine", k))), (0, [0] * 3 ** k))
        for k in (2, 3, 4, 5):
            count = 2 ** k - 1
            many = (count - 1) // 2 * ((count - 3) // 2)
            self.assertEqual((four_count(("binary", k)), fours(("binary", k))), (count * many // 6, [many] * count))
        self.assertEqual((four_count(A), four_count(B)), (13, 8))

    def test_a_point_or_three(self):
        for tree in (("listed", 1, []), ("double", ("listed", 1, ())), ("bose", 3), ("affine", 1), ("binary", 2)):
            self.assertEqual((fours(tree), four_count(tree)), ([0] * points_in(tree), 0))

    def test_renamed(self):
        chance = random.Random(12)
        for tree in (A, B, ("skolem", 31), ("double", ("bose", 15)), ("skolem", 55), ("bose", 57)):
            names = some_names(points_in(tree), chance)
            told, other = fours(tree), fours(renamed(tree, names))
            self.assertEqual([other[name] for name in names], told)
            self.assertEqual(four_count(tree) * 6, sum(told))

    def test_lists_are_new(self):
        fours(("bose", 3)).clear()
        self.assertEqual(fours(("bose", 3)), [0, 0, 0])
        rounds(("bose", 9), 0, 1).clear()
        self.assertEqual(sum(rounds(("bose", 9), 0, 1)), 6)
        all_rounds(("bose", 3)).clear()
        self.assertEqual(all_rounds(("bose", 3)), [((), 3)])


class Rounds(unittest.TestCase):
    def test_by_a_walk(self):
        for tree in MANY:
            table = third_table(tree)
            count = points_in(tree)
            for one in range(count):
                for other in range(count):
                    if one != other and (count < 16 or (one + other) % 5 == 0):
                        told = rounds(tree, one, other)
                        self.assertEqual(told, rounds_by_walk(table, count, one, other))
                        self.assertEqual(sum(told), count - 3)
            if count > 1:
                unchanged(self, rounds, tree, 0, count - 1)

    def test_binary_and_affine_systems(self):
        self.assertEqual(rounds(("binary", 5), 3, 17), [4] * 7)
        self.assertEqual(all_rounds(("binary", 5)), [((4,) * 7, 465)])
        self.assertEqual(all_rounds(("affine", 3)), [((6,) * 4, 351)])
        self.assertEqual(rounds(("bose", 3), 2, 0), [])

    def test_all_rounds(self):
        for tree in MANY:
            told = unchanged(self, all_rounds, tree)
            self.assertEqual(repr(told), repr(pairs_by_walk(tree)))
            self.assertEqual(sum(many for _, many in told), points_in(tree) * (points_in(tree) - 1) // 2)
        self.assertEqual(all_rounds(("listed", 1, [])), [])
        self.assertEqual(all_rounds(("bose", 57)), pairs_by_walk(("bose", 57)))

    def test_counts(self):
        for tree in MANY:
            told = unchanged(self, counts_of, tree)
            fours_there = tuple(sorted(fours_by_words(tree) if points_in(tree) < 16 else fours(tree)))
            self.assertEqual(repr(told), repr((points_in(tree), fours_there, tuple(pairs_by_walk(tree)))))
        self.assertEqual(counts_of(("listed", 1, ())), (1, (0,), ()))

    def test_fours_are_rounds_of_four_points(self):
        for tree in MANY:
            fours_there = sum(lengths.count(4) * many for lengths, many in pairs_by_walk(tree))
            self.assertEqual(four_count(tree) * 3, fours_there)

    def test_likenesses_lead_rounds_to_rounds(self):
        for tree in (A, B, ("skolem", 19), ("bose", 15)):
            for images in likenesses(tree, tree)[1::7]:
                for one, other in ((0, 1), (3, 2), (points_in(tree) - 1, 4)):
                    self.assertEqual(rounds(tree, one, other), rounds(tree, images[one], images[other]))
                self.assertEqual([fours(tree)[image] for image in images], fours(tree))

    def test_shows_unlike(self):
        chance = random.Random(13)
        for one in MANY[::2] + [A, B]:
            self.assertIs(unchanged(self, shows_unlike, one, renamed(one, some_names(points_in(one), chance))), False)
            for other in MANY[::3] + [A, B]:
                self.assertIs(shows_unlike(one, other), counts_of(one) != counts_of(other))
        for one, other in ((A, B), (B, ("skolem", 13)), (("binary", 4), ("bose", 15)), (("affine", 3), ("bose", 27)),
                           (("bose", 3), ("listed", 1, [])), (("bose", 9), ("skolem", 7))):
            self.assertIs(shows_unlike(one, other), True)
            self.assertIs(shows_unlike(other, one), True)
        for one, other in ((A, ("skolem", 13)), (("affine", 1), ("binary", 2)), (("skolem", 7), ("binary", 3)),
                           (("listed", 9, NINE), ("bose", 9)), (("double", ("listed", 7, FANO)), ("binary", 4)),
                           (("product", ("affine", 1), ("affine", 1)), ("affine", 2))):
            self.assertIs(shows_unlike(one, other), False)


class Errors(unittest.TestCase):
    def test_no_systems(self):
        for tree in NO_TREES:
            for call in (fours, four_count, all_rounds, counts_of):
                raised(self, InvalidSystem, call, tree)
            for one, other in ((0, 1), (0, 0), (-1, 99)):
                raised(self, InvalidSystem, rounds, tree, one, other)
            for other in (("bose", 9), ("bose", 63), ("bose", 4)):
                raised(self, InvalidSystem, shows_unlike, tree, other)
            raised(self, InvalidSystem, shows_unlike, ("bose", 9), tree)

    def test_more_than_60_points(self):
        for tree in BEYOND:
            for call in (fours, four_count, all_rounds, counts_of):
                raised(self, InvalidQuestion, call, tree)
            for one, other in ((0, 1), (0, 0), (-1, 99), (10 ** 40, 0)):
                raised(self, InvalidQuestion, rounds, tree, one, other)
            for other in (("bose", 9), ("bose", 63), ("bose", 4), (), tree):
                raised(self, InvalidQuestion, shows_unlike, tree, other)
            raised(self, InvalidQuestion, shows_unlike, ("bose", 9), tree)
        raised(self, InvalidSystem, fours, doubled(("bose", 9), 12))

    def test_points(self):
        for tree in MANY:
            count = points_in(tree)
            for one, other, point in ((count, 0, count), (0, count, count), (-1, count, -1), (count, -1, count), (count, count, count),
                                      (-7, -7, -7), (0, -1, -1), (10 ** 40, 0, 10 ** 40), (0, count + 7, count + 7)):
                self.assertEqual(raised(self, UnknownPoint, rounds, tree, one, other).point, point)
            for point in (0, count - 1):
                raised(self, InvalidQuestion, rounds, tree, point, point)
