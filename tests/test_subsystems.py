import inspect
import unittest
from itertools import combinations

from paironce.errors import InvalidQuestion, InvalidSystem, TooMany, UnknownPoint
from paironce.subsystems import (chain, closed, growth, is_closed, least_points, meet, subsystem_counts, subsystems,
                                 taken_out)
from paironce.systems import checked
from helper import (FANO, GREAT, MADE, NINE, NO_TREES, SINGLE, SMALL, is_three, points_in, raised, run_examples,
                    third_table, threes_by_search, unchanged)

LITTLE = [tree for tree in SMALL if points_in(tree) <= 15] + [
    ("double", ("listed", 7, FANO)), ("double", ("skolem", 7)), ("listed", 13, threes_by_search(("skolem", 13))[::-1]),
]
MIDDLE = [tree for tree in SMALL if points_in(tree) <= 31]


def closed_by_table(table, points):
    """The least subsystem, by adding third points as long as there are new ones."""
    found = set(points)
    new = True
    while new:
        new = {table[a, b] for a in found for b in found if a != b} - found
        found |= new
    return sorted(found)


def lists_of_points(count):
    """Some lists of points, in any order, some of them several times."""
    last = count - 1
    told = [[], [0], [last], [last, last, last], [0, last], [last, 0, last, 0], list(range(count)), list(range(count))[::-1]]
    for a, b, c, d in ((0, 1, 2, 3), (5, 2, 11, 0), (last, 1, last // 2, 0), (7, 4, 1, last), (3, 6, 9, 12), (2, 0, 8, 4)):
        told += [list(points) for points in ([a, b], [c, b, a], [a, b, c, d], [d, d, c, a, c, b], [b, c, d, a, 1])
                 if max(points) < count]
    return told


def all_by_search(tree):
    """All subsystems of a little system: a three has none, one or three points in them."""
    bits = [sum(1 << point for point in three) for three in threes_by_search(tree)]
    told = []
    for points in range(1 << points_in(tree)):
        if all(bin(points & three).count("1") != 2 for three in bits):
            told.append([point for point in range(points_in(tree)) if points >> point & 1])
    return sorted(told)


ALL = [(tree, all_by_search(tree)) for tree in LITTLE]


class Examples(unittest.TestCase):
    def test_examples(self):
        run_examples(self, """
>>> from paironce.subsystems import closed, least_points, subsystem_counts
>>> (closed(("binary", 4), [0, 1, 3]), least_points(("affine", 2)), subsystem_counts(("binary", 3)))
([0, 1, 2, 3, 4, 5, 6], [0, 1, 3], [(0, 1), (1, 7), (3, 7), (7, 1)])
""")


class Closing(unittest.TestCase):
    def test_small_systems(self):
        for tree in SMALL:
            table = third_table(tree)
            for points in lists_of_points(points_in(tree)):
                told = unchanged(self, closed, tree, points)
                self.assertEqual(told, closed_by_table(table, points), (tree, points))
                self.assertIs(unchanged(self, is_closed, tree, told), True)
                self.assertIs(is_closed(tree, told[::-1] + told), True)
                self.assertIs(unchanged(self, is_closed, tree, points), sorted(set(points)) == told)
                for point in range(points_in(tree)):
                    if point not in told and len(told) > 1:
                        self.assertIs(is_closed(tree, told + [point]), False)
                    if point in told and len(told) > 3:
                        self.assertIs(is_closed(tree, [other for other in told if other != point]), False)

    def test_three_points_of_each_little_system(self):
        for tree in LITTLE:
            table = third_table(tree)
            for points in combinations(range(points_in(tree)), 3):
                self.assertEqual(closed(tree, list(points)[::-1]), closed_by_table(table, points))
                self.assertIs(is_closed(tree, list(points)), table[points[:2]] == points[2])

    def test_growth_and_chain(self):
        for tree in SMALL:
            table = third_table(tree)
            for points in lists_of_points(points_in(tree)):
                told = [closed_by_table(table, points[:at + 1]) for at in range(len(points))]
                self.assertEqual(unchanged(self, growth, tree, points), [len(members) for members in told])
                once = [members for at, members in enumerate(told) if at == 0 or members != told[at - 1]]
                self.assertEqual(unchanged(self, chain, tree, points), once)

    def test_by_hand(self):
        self.assertEqual(closed(("affine", 3), [26, 0]), [0, 13, 26])
        self.assertEqual(growth(("binary", 5), [0, 0, 1, 2, 30, 7, 3]), [1, 1, 3, 3, 7, 15, 31])
        self.assertEqual(chain(("affine", 2), [5, 5, 3, 4, 0]), [[5], [3, 4, 5], list(range(9))])
        self.assertEqual((closed(("bose", 9), []), growth(("bose", 9), []), chain(("bose", 9), [])), ([], [], []))
        self.assertIs(is_closed(("bose", 9), []), True)
        self.assertEqual(closed(("double", ("bose", 9)), [0, 9]), [0, 9, 18])
        self.assertEqual(closed(("product", ("bose", 3), ("skolem", 7)), [2, 9]), [2, 9, 16])

    def test_great_systems(self):
        for tree in GREAT:
            last = points_in(tree) - 1
            for points in ([last], [last, 0], [0, last, 0, last], [last // 2, last, 1]):
                try:
                    told = closed(tree, points, limit=63)
                except TooMany:
                    self.assertEqual(len(set(points)), 3)
                    continue
                self.check_closed(tree, points, told)

    def check_closed(self, tree, points, told):
        """The least subsystem, by the threes that lie in what was told."""
        table = {}
        for a, b in combinations(told, 2):
            if (a, b) not in table:
                last = [c for c in told if c not in (a, b) and is_three(tree, [a, b, c])]
                self.assertEqual(len(last), 1)
                for x, y, z in ((a, b, last[0]), (b, last[0], a), (last[0], a, b)):
                    table[x, y] = table[y, x] = z
        self.assertEqual(closed_by_table(table, points), told)
        self.assertIs(is_closed(tree, told), True)
        self.assertEqual(growth(tree, points)[-1], len(told))
        self.assertEqual(chain(tree, points)[-1], told)

    def test_small_subsystems_of_great_systems(self):
        a, b = ("affine", 30), ("binary", 49)
        w = 2 ** 49 - 1
        asked = [
            (("affine", 60), [3 ** 59, 5, 3 ** 30 + 1, 0], 27), (("binary", 99), [2 ** 98, 6, 2 ** 50, 77, 2 ** 98], 15),
            (("binary", 99), [2 ** 98 - 1, 0, 2 ** 60, 2 ** 70, 5], 31),
            (("product", a, b), [3 * w + 1, 3 * w + 2, 3 * w + 7, 3 * w + 15], 15),
            (("product", a, b), [7 * w + 5, 11 * w + 5, 3 ** 20 * w + 5], 9),
            (("product", a, b), [7 * w + 5, 11 * w + 5, 7 * w + 9], 9),
            (("product", a, b), [7 * w + 5, 11 * w + 9], 3),
            (("product", b, b), [3 * w + 3, 7 * w + 7, 12 * w + 12], 7),
            (("double", ("affine", 60)), [3 ** 59, 3 ** 60 + 3 ** 59, 2], 7),
            (("double", ("affine", 60)), [0, 3 ** 60 + 5, 9], 19), (("double", ("affine", 60)), [0, 5, 9], 9),
            (("double", ("double", ("binary", 97))), [0, 2 ** 98, 2 ** 99 - 2, 3], 15),
        ]
        for tree, points, many in asked:
            told = closed(tree, points)
            self.assertEqual(len(told), many, (tree, points))
            self.check_closed(tree, points, told)

    def test_subsystems_that_the_parts_of_a_product_do_not_tell(self):
        # The points (a, a) of the product of a system with itself are as many as the system has.
        for part in (("skolem", 13), ("bose", 15), ("double", ("bose", 9)), ("affine", 3), ("binary", 5)):
            v = points_in(part)
            table = third_table(part)
            for points in ([0, 1, 3], [5, 2, 11, 4]):
                expected = [a * v + a for a in closed_by_table(table, points)]
                self.assertEqual(closed(("product", part, part), [a * v + a for a in points]), expected)

    def test_great_subsystems(self):
        self.assertEqual(closed(("binary", 99), [2 ** at - 1 for at in range(10)]), list(range(1023)))
        self.assertEqual(closed(("affine", 60), [0] + [3 ** at for at in range(6)]), list(range(729)))
        self.assertEqual(closed(("bose", 1995), [5, 8, 0]), list(range(1995)))
        self.assertIs(is_closed(("binary", 99), list(range(1023))), True)
        self.assertIs(is_closed(("binary", 99), list(range(1022))), False)
        self.assertIs(is_closed(("bose", 2001), list(range(2001))), True)
        self.assertIs(is_closed(("bose", 2001), list(range(2000))), False)

    def test_what_is_told_is_new(self):
        points = [3, 0]
        closed(("bose", 9), points).append(8)
        growth(("bose", 9), points).append(8)
        told = chain(("bose", 9), points)
        told[0].append(8)
        told[1].append(8)
        self.assertEqual(points, [3, 0])
        self.assertEqual([len(members) for members in chain(("bose", 9), points)], [1, 3])

    def test_limits(self):
        for tree in SMALL + [("binary", 99), ("affine", 60)]:
            count = points_in(tree)
            for points in ([count - 1], [0, count - 1], [1, 0, 3, 4]):
                if max(points) >= count:
                    continue
                told = closed(tree, points)
                many = len(told)
                self.assertEqual(closed(tree, points, limit=many), told)
                self.assertEqual(growth(tree, points, limit=many)[-1], many)
                self.assertEqual(chain(tree, points, limit=many)[-1], told)
                for call in (closed, growth, chain):
                    self.assertEqual(raised(self, TooMany, call, tree, points, limit=many - 1).limit, many - 1)
                    self.assertEqual(raised(self, TooMany, call, tree, points, limit=0).limit, 0)
        for call in (closed, growth, chain):
            self.assertEqual(call(("bose", 9), [], limit=0), [])

    def test_limits_of_their_own(self):
        for call in (closed, growth, chain):
            self.assertEqual(raised(self, TooMany, call, ("binary", 99), [2 ** at - 1 for at in range(11)]).limit, 2000)
            self.assertEqual(raised(self, TooMany, call, ("skolem", 10 ** 30 - 3), [0, 1, 2]).limit, 2000)
            self.assertEqual(raised(self, TooMany, call, ("bose", 2001), [0, 1, 2]).limit, 2000)
        self.assertEqual(len(closed(("bose", 2001), [0, 1, 2], limit=2001)), 2001)
        self.assertEqual(len(closed(("binary", 99), [2 ** at - 1 for at in range(11)], limit=2047)), 2047)

    def test_errors(self):
        for tree in NO_TREES:
            for call in (closed, is_closed, growth, chain, taken_out):
                raised(self, InvalidSystem, call, tree, [-1])
        for tree in SMALL + GREAT:
            count = points_in(tree)
            for points, point in (([-1], -1), ([0, count], count), ([count, -1, 0], count), ([0, -2, count], -2)):
                for call in (closed, is_closed, growth, chain, taken_out):
                    self.assertEqual(raised(self, UnknownPoint, call, tree, points).point, point)
                for call in (closed, growth, chain):
                    self.assertEqual(raised(self, UnknownPoint, call, tree, points, limit=0).point, point)


class TakenOut(unittest.TestCase):
    def test_small_systems(self):
        for tree in MIDDLE:
            table = third_table(tree)
            for points in lists_of_points(points_in(tree))[1:]:
                told = unchanged(self, taken_out, tree, points)
                members = closed_by_table(table, points)
                threes = [three for three in combinations(members, 3) if table[three[:2]] == three[2]]
                renamed = tuple(tuple(members.index(point) for point in three) for three in threes)
                self.assertEqual(told, ("listed", len(members), renamed))
                self.assertEqual(checked(told), told)
                self.assertEqual(list(renamed), sorted(renamed))

    def test_by_hand(self):
        self.assertEqual(taken_out(("affine", 60), [3 ** 59]), ("listed", 1, ()))
        self.assertEqual(taken_out(("affine", 60), [3 ** 59, 0, 3 ** 59]), ("listed", 3, ((0, 1, 2),)))
        self.assertEqual(taken_out(("listed", 9, NINE), [8, 1]), ("listed", 3, ((0, 1, 2),)))
        self.assertEqual(taken_out(("binary", 50), [2 ** 49, 2 ** 3, 5]),
                         ("listed", 7, tuple(threes_by_search(("binary", 3)))))
        self.assertEqual(taken_out(("affine", 50), [7 * 3 ** 40, 2, 0]), ("listed", 9, tuple(threes_by_search(("affine", 2)))))

    def test_most_points(self):
        told = taken_out(("bose", 57), [0, 1, 2])
        self.assertEqual(told, ("listed", 57, tuple(threes_by_search(("bose", 57)))))
        self.assertEqual(taken_out(("binary", 99), [0, 1, 3, 7, 15])[1], 31)

    def test_errors(self):
        for tree in SMALL + GREAT:
            raised(self, InvalidQuestion, taken_out, tree, [])
        raised(self, InvalidQuestion, taken_out, ("binary", 99), [0, 1, 3, 7, 15, 31])
        raised(self, InvalidQuestion, taken_out, ("bose", 63), [0, 1, 2])
        raised(self, InvalidQuestion, taken_out, ("affine", 60), [0, 1, 3, 9, 27])
        raised(self, InvalidQuestion, taken_out, ("skolem", 10 ** 30 - 3), [0, 1, 2])


class LeastPoints(unittest.TestCase):
    def least_by_search(self, tree):
        table = third_table(tree)
        count = points_in(tree)
        for many in range(count + 1):
            for points in combinations(range(count), many):
                if len(closed_by_table(table, points)) == count:
                    return list(points)

    def test_by_search(self):
        for tree in LITTLE + [("skolem", 19), ("bose", 21), ("skolem", 25), ("double", ("bose", 9)), ("affine", 3),
                              ("product", ("bose", 3), ("skolem", 7)), ("double", ("double", ("affine", 1))),
                              ("double", ("skolem", 13)), ("listed", 19, threes_by_search(("double", ("affine", 2))))]:
            self.assertEqual(unchanged(self, least_points, tree), self.least_by_search(tree), tree)

    def test_systems_that_need_many(self):
        self.assertEqual(least_points(("listed", 1, ())), [0])
        self.assertEqual(least_points(("product", ("listed", 1, ()), ("listed", 1, ()))), [0])
        self.assertEqual(least_points(("bose", 3)), [0, 1])
        self.assertEqual(least_points(("binary", 5)), [0, 1, 3, 7, 15])
        self.assertEqual(least_points(("double", ("binary", 4))), [0, 1, 3, 7, 15])
        for tree in (("double", ("affine", 3)), ("product", ("skolem", 7), ("skolem", 7)), ("product", ("binary", 4), ("affine", 1))):
            table = third_table(tree)
            told = least_points(tree)
            self.assertEqual(len(closed_by_table(table, told)), points_in(tree))
            self.assertEqual(told, sorted(told))
            for points in combinations(range(points_in(tree)), 3):
                if points[:2] < tuple(told[:2]) or len(told) == 4 and points[0] < 3:
                    self.assertLess(len(closed_by_table(table, points)), points_in(tree))

    def test_errors(self):
        for tree in NO_TREES:
            raised(self, InvalidSystem, least_points, tree)
        for tree in GREAT + [("bose", 63), ("skolem", 61), ("binary", 6), ("affine", 4), ("double", ("skolem", 31))]:
            raised(self, InvalidQuestion, least_points, tree)
        self.assertEqual(least_points(("bose", 57)), [0, 1, 2])


class Subsystems(unittest.TestCase):
    def test_by_search(self):
        for tree, told in ALL:
            count = points_in(tree)
            for many in range(count + 3):
                expected = [members for members in told if len(members) == many]
                self.assertEqual(unchanged(self, subsystems, tree, many), expected, (tree, many))
            sizes = [len(members) for members in told]
            self.assertEqual(unchanged(self, subsystem_counts, tree), sorted({(many, sizes.count(many)) for many in sizes}))

    def test_numbers_that_subsystems_have(self):
        for tree, told in ALL:
            count = points_in(tree)
            for members in told:
                many = len(members)
                self.assertTrue(many == 0 or many % 6 in (1, 3))
                self.assertTrue(many == count or 2 * many < count)

    def test_known_counts(self):
        self.assertEqual(subsystem_counts(("binary", 5)), [(0, 1), (1, 31), (3, 155), (7, 155), (15, 31), (31, 1)])
        self.assertEqual(subsystem_counts(("affine", 3)), [(0, 1), (1, 27), (3, 117), (9, 39), (27, 1)])
        self.assertEqual(subsystem_counts(("listed", 1, ())), [(0, 1), (1, 1)])
        self.assertEqual(subsystem_counts(("bose", 3)), [(0, 1), (1, 3), (3, 1)])
        for tree in SINGLE:
            if points_in(tree) <= 60:
                told = dict(subsystem_counts(tree))
                self.assertEqual((told[0], told[1], told[points_in(tree)]), (1, points_in(tree), 1))

    def test_greater_systems(self):
        for tree in (("bose", 21), ("double", ("bose", 9)), ("product", ("bose", 3), ("skolem", 7)), ("skolem", 25),
                     ("double", ("skolem", 13))):
            table = third_table(tree)
            count = points_in(tree)
            found = {tuple(closed_by_table(table, points)) for many in range(3) for points in combinations(range(count), many)}
            found |= {tuple(closed_by_table(table, line + (point,))) for line in found if len(line) == 3
                      for point in range(count)}
            found |= {tuple(closed_by_table(table, members + (point,))) for members in found if len(members) in (7, 9)
                      for point in range(count)}
            for many in (0, 1, 2, 3, 7, 9, count, count + 1):
                self.assertEqual(subsystems(tree, many), sorted(list(told) for told in found if len(told) == many))
            self.assertEqual(sum(many for _, many in subsystem_counts(tree)), len(found))

    def test_limits_of_subsystems(self):
        for tree, told in ALL:
            for many in range(points_in(tree) + 2):
                fewer = len([members for members in told if len(members) <= many])
                subsystems(tree, many, limit=fewer)
                self.assertEqual(raised(self, TooMany, subsystems, tree, many, limit=fewer - 1).limit, fewer - 1)
            subsystem_counts(tree, limit=len(told))
            self.assertEqual(raised(self, TooMany, subsystem_counts, tree, limit=len(told) - 1).limit, len(told) - 1)
            self.assertEqual(raised(self, TooMany, subsystem_counts, tree, limit=0).limit, 0)
        self.assertEqual(raised(self, TooMany, subsystems, ("binary", 3), 0, limit=0).limit, 0)
        self.assertEqual(subsystems(("binary", 3), 0, limit=1), [[]])
        self.assertEqual(len(subsystems(("bose", 57), 3, limit=590)), 532)
        self.assertEqual(raised(self, TooMany, subsystems, ("bose", 57), 3, limit=589).limit, 589)

    def test_limits_of_their_own(self):
        # None of the systems that are tried here has so many subsystems.
        for call in (subsystems, subsystem_counts):
            self.assertEqual(inspect.signature(call).parameters["limit"].default, 2000)

    def test_what_is_told_is_new(self):
        told = subsystems(("binary", 3), 0)
        told[0].append(3)
        self.assertEqual(subsystems(("binary", 3), 0), [[]])
        subsystem_counts(("binary", 3)).clear()
        self.assertEqual(len(subsystem_counts(("binary", 3))), 4)

    def test_errors(self):
        for tree in NO_TREES:
            raised(self, InvalidSystem, subsystems, tree, -1, limit=0)
            raised(self, InvalidSystem, subsystem_counts, tree, limit=0)
        for tree in GREAT + [("bose", 63), ("skolem", 61), ("double", ("skolem", 31))]:
            for many in (-1, 0, 1, 3):
                raised(self, InvalidQuestion, subsystems, tree, many, limit=0)
            raised(self, InvalidQuestion, subsystem_counts, tree, limit=0)
        for tree in LITTLE:
            for many in (-1, -2, -10 ** 30):
                raised(self, InvalidQuestion, subsystems, tree, many, limit=0)


class Meet(unittest.TestCase):
    def test_by_search(self):
        for tree, told in ALL:
            for first in told[::3]:
                for second in told[::2]:
                    expected = sorted(set(first) & set(second))
                    self.assertEqual(unchanged(self, meet, tree, first[::-1], second), expected)
                    self.assertEqual(meet(tree, second[1:] + second[:1], first + first[:1]), expected)
                    self.assertIn(expected, told)

    def test_what_is_no_subsystem(self):
        for tree, told in ALL:
            count = points_in(tree)
            if count >= 7:
                for first in told[::4]:
                    raised(self, InvalidQuestion, meet, tree, first, [0, 1])
                    raised(self, InvalidQuestion, meet, tree, [1, 0], first)
                    raised(self, InvalidQuestion, meet, tree, list(range(1, count)), first)
        raised(self, InvalidQuestion, meet, ("bose", 9), [0, 1, 2], [0, 1, 2])

    def test_great_systems(self):
        self.assertEqual(meet(("binary", 99), [2 ** 98, 1, 2 ** 98 + 2], [5]), [])
        lines = [closed(("affine", 60), [3 ** 59, point]) for point in (5, 7)]
        self.assertEqual(meet(("affine", 60), *lines), [3 ** 59])

    def test_errors(self):
        for tree in NO_TREES:
            raised(self, InvalidSystem, meet, tree, [-1], [0, 1])
        for tree in SMALL + GREAT:
            count = points_in(tree)
            for first, second, point in (([0, count], [-1], count), ([], [0, -1, count], -1), ([-2, count], [], -2),
                                         ([0, 0], [count, -1], count)):
                self.assertEqual(raised(self, UnknownPoint, meet, tree, first, second).point, point)
        self.assertEqual(raised(self, UnknownPoint, meet, ("bose", 9), [0, 1], [9]).point, 9)
        self.assertEqual(raised(self, UnknownPoint, meet, ("bose", 9), [0, 1, 12], [3, 4, 9]).point, 12)
        self.assertEqual([meet(tree, [], []) for tree in MADE[:2]], [[], []])
