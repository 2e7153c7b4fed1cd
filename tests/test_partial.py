import unittest
from itertools import combinations

from paironce.errors import InvalidQuestion, InvalidSystem, UnknownPoint
from paironce.partial import first_fault, is_whole, kept_threes, odd_point, open_pairs, open_thirds
from paironce.threes import all_threes
from helper import FANO, NINE, raised, run_examples, unchanged

# Numbers of points with threes in which no two points lie twice.
PARTIAL = [
    (1, []), (1, ()), (2, []), (3, []), (3, [(2, 1, 0)]), (4, [(3, 0, 2)]), (5, [[4, 0, 1], (2, 3, 4)]),
    (6, [(5, 4, 3), (0, 1, 5)]), (7, []), (7, [(6, 1, 0)]), (7, FANO), (7, tuple(FANO[2:])), (7, FANO[3:] + FANO[:2]),
    (9, NINE), (9, NINE[:4]), (9, NINE[::-2]), (10, FANO), (13, NINE[3:]), (8, [(7, 0, 4), [6, 5, 0]]),
    (60, []), (60, [[59, 0, 30], (1, 59, 58)]), (57, all_threes(("bose", 57))), (60, all_threes(("bose", 57))[::3]),
]
# What is no number of points, or no three of them.
NO_COUNTS = (0, -1, 61, 62, -60, 10 ** 40, -10 ** 40)
NO_THREES = ((), (0,), (0, 1), [0, 1, 2, 3], (0, 0, 1), (0, 1, 0), [1, 0, 0], (2, 2, 2), (-1, 0, 1), (0, 1, -1),
             (0, 1, 9), [9, 1, 0], (0, 10 ** 40, 1), (0, 1, -10 ** 40))


def as_kept(threes):
    return sorted(tuple(sorted(three)) for three in threes)


def met(threes):
    """How often pairs lie in the threes."""
    told = {}
    for three in threes:
        for pair in combinations(sorted(three), 2):
            told[pair] = told.get(pair, 0) + 1
    return told


def open_by_rules(count, threes):
    return [pair for pair in combinations(range(count), 2) if pair not in met(threes)]


class Partial(unittest.TestCase):
    def test_examples(self):
        run_examples(self, """
>>> from paironce.partial import first_fault, odd_point, open_thirds
>>> (first_fault(4, [(0, 1, 2)]), first_fault(5, [(0, 1, 2), (4, 1, 0)]))
(('missing', 0, 3), ('twice', 0, 1))
>>> (open_thirds(7, [(0, 1, 2)], 3, 0), odd_point(7, [(0, 1, 2)]), odd_point(6, [(0, 1, 2)]))
([4, 5, 6], None, 0)
""")

    def test_kept_threes(self):
        for count, threes in PARTIAL:
            self.assertEqual(repr(unchanged(self, kept_threes, count, threes)), repr(as_kept(threes)))

    def test_kept_threes_are_new(self):
        threes = [(0, 1, 2)]
        told = kept_threes(3, threes)
        told.clear()
        self.assertEqual(threes, [(0, 1, 2)])
        rows = [[0, 1, 2]]
        told = kept_threes(3, rows)
        rows[0][0] = 7
        self.assertEqual(told, [(0, 1, 2)])

    def test_open_pairs(self):
        for count, threes in PARTIAL:
            self.assertEqual(repr(unchanged(self, open_pairs, count, threes)), repr(open_by_rules(count, threes)))

    def test_open_thirds(self):
        for count, threes in PARTIAL:
            pairs = set(open_by_rules(count, threes))
            points = range(count) if count < 20 else (0, 1, 2, 30, 31, count - 2, count - 1)
            for a in points:
                for b in points:
                    if a == b:
                        continue
                    told = []
                    if tuple(sorted((a, b))) in pairs:
                        told = [c for c in range(count) if c not in (a, b) and tuple(sorted((a, c))) in pairs
                                and tuple(sorted((b, c))) in pairs]
                    self.assertEqual(open_thirds(count, threes, a, b), told, (count, a, b))
        unchanged(self, open_thirds, 9, [list(three) for three in NINE[:4]], 0, 8)

    def test_odd_point(self):
        for count, threes in PARTIAL:
            pairs = open_by_rules(count, threes)
            odd = [p for p in range(count) if sum(p in pair for pair in pairs) % 2 == 1]
            self.assertEqual(unchanged(self, odd_point, count, threes), odd[0] if odd else None)
        self.assertEqual([odd_point(count, []) for count in (1, 2, 3, 4, 59, 60)], [None, 0, None, 0, None, 0])

    def test_first_fault(self):
        for count, threes in PARTIAL:
            pairs = open_by_rules(count, threes)
            told = ("missing",) + pairs[0] if pairs else None
            self.assertEqual(repr(unchanged(self, first_fault, count, threes)), repr(told))
            self.assertIs(unchanged(self, is_whole, count, threes), told is None)

    def test_pairs_that_lie_twice(self):
        for count, threes, pair in (
            (5, [(0, 1, 2), (4, 1, 0)], (0, 1)), (5, [(3, 4, 2), (2, 3, 0)], (2, 3)), (3, [(0, 1, 2), [2, 1, 0]], (0, 1)),
            (7, FANO + [(2, 4, 6)], (2, 4)), (7, FANO + [(6, 5, 4)], (4, 5)), (7, FANO + FANO[5:6], (2, 3)),
            (9, [(7, 8, 6), (0, 5, 4), (5, 4, 3), (6, 7, 1)], (4, 5)), (9, NINE + NINE, (0, 1)),
            (60, [(57, 58, 59)] * 3, (57, 58)), (60, [[1, 58, 59], (0, 58, 59)], (58, 59)),
            (4, [(1, 2, 3), (0, 1, 2), (0, 3, 1)], (0, 1)),
        ):
            self.assertEqual(min(told for told, many in met(threes).items() if many > 1), pair)
            for form in (threes, tuple(threes), threes[::-1], [list(three)[::-1] for three in threes]):
                self.assertEqual(unchanged(self, first_fault, count, form), ("twice",) + pair)
                self.assertIs(unchanged(self, is_whole, count, form), False)
                for call, more in ((kept_threes, ()), (open_pairs, ()), (odd_point, ()), (open_thirds, (0, 1)),
                                   (open_thirds, (-1, -1)), (open_thirds, (0, 0))):
                    raised(self, InvalidSystem, call, count, form, *more)

    def test_all_sets_of_three_threes(self):
        for threes in combinations(list(combinations(range(5), 3)), 3):
            pairs = met(threes)
            twice = sorted(pair for pair in pairs if pairs[pair] > 1)
            missing = [pair for pair in combinations(range(5), 2) if pair not in pairs]
            told = ("twice",) + twice[0] if twice else ("missing",) + missing[0]
            self.assertEqual(first_fault(5, threes), told)

    def test_whole_systems(self):
        self.assertIs(is_whole(1, []), True)
        self.assertIs(is_whole(2, []), False)
        self.assertIs(is_whole(3, ([2, 0, 1],)), True)
        self.assertIs(is_whole(7, FANO), True)
        self.assertIs(is_whole(8, FANO), False)
        self.assertIsNone(first_fault(57, all_threes(("bose", 57))))
        self.assertEqual(first_fault(9, NINE[:-1]), ("missing", 2, 4))


class Errors(unittest.TestCase):
    CALLS = ((kept_threes, ()), (first_fault, ()), (is_whole, ()), (open_pairs, ()), (odd_point, ()),
             (open_thirds, (0, 1)), (open_thirds, (0, 0)), (open_thirds, (-1, 0)), (open_thirds, (0, 10 ** 40)))

    def test_numbers_of_points(self):
        for call, more in self.CALLS:
            for count in NO_COUNTS:
                raised(self, InvalidSystem, call, count, [], *more)
                raised(self, InvalidSystem, call, count, [(0, 1, 2)], *more)

    def test_what_is_no_three(self):
        for call, more in self.CALLS:
            for three in NO_THREES:
                raised(self, InvalidSystem, call, 9, [three], *more)
                raised(self, InvalidSystem, call, 9, ((3, 4, 5), three), *more)
                raised(self, InvalidSystem, call, 9, [three, [6, 7, 8]], *more)
            raised(self, InvalidSystem, call, 60, [(58, 59, 60)], *more)
            raised(self, InvalidSystem, call, 2, [(0, 1, 2)], *more)

    def test_points_and_questions(self):
        for count, threes in PARTIAL:
            for point in (-1, count, 60, 61, -10 ** 40, 10 ** 40):
                if not 0 <= point < count:
                    for a, b in ((point, 0), (0, point), (point, point), (point, point + 10 ** 50)):
                        self.assertEqual(raised(self, UnknownPoint, open_thirds, count, threes, a, b).point, point)
            for point in (0, count - 1):
                raised(self, InvalidQuestion, open_thirds, count, threes, point, point)
