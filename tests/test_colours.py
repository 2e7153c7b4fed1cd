import unittest
from itertools import combinations, product

from paironce.colours import check_colouring, colouring
from paironce.errors import InvalidQuestion, InvalidSystem, TooMany
from paironce.threes import all_threes
from helper import FANO, NINE, OTHER_THIRTEEN, THIRTEEN, raised, run_examples, threes_by_search, unchanged
from test_partial import NO_COUNTS, NO_THREES, PARTIAL, as_kept

SMALL = [(count, threes) for count, threes in PARTIAL if count <= 7] + [
    (8, [(7, 0, 4), [6, 5, 0], (1, 2, 3)]), (9, NINE), (9, NINE[:4]), (9, NINE[::-2]), (7, [(0, 1, 2), (0, 3, 4), (1, 3, 5), (2, 4, 5)]),
    (6, [[3, 1, 0], [2, 1, 4]]),
]


def fits(threes, told):
    return all(len({told[point] for point in three}) > 1 for three in threes)


def all_colourings(count, threes, colours):
    return [told for told in product(range(colours), repeat=count) if fits(threes, told)]


def tried_by_words(count, threes, colours):
    """The first colouring that point 101 comes to, and how many colours are tried; it gives up behind 20000."""
    tried = 0

    def enter(told):
        nonlocal tried
        if len(told) == count:
            return tuple(told)
        new = len(set(told))
        for colour in range(min(new + 1, colours)):
            larger = told + [colour]
            if all(len({larger[point] for point in three}) > 1 for three in threes if max(three) == len(told)):
                tried += 1
                found = enter(larger)
                if found is not None or tried > 20000:
                    return found
        return None

    return enter([]), tried


class Colouring(unittest.TestCase):
    def test_against_all_colourings(self):
        for count, threes in SMALL:
            for colours in (1, 2, 3):
                told = all_colourings(count, threes, colours)
                self.assertEqual(repr(unchanged(self, colouring, count, threes, colours)), repr(told[0] if told else None))
                # The order of the threes makes no difference.
                self.assertEqual(colouring(count, as_kept(threes)[::-1], colours), told[0] if told else None)

    def test_against_the_search(self):
        for count, threes in SMALL + PARTIAL + [(13, THIRTEEN), (13, OTHER_THIRTEEN), (15, all_threes(("binary", 4))), (15, all_threes(("bose", 15)))]:
            for colours in range(1, 11):
                told, tried = tried_by_words(count, threes, colours)
                if tried > 20000:
                    self.assertEqual(raised(self, TooMany, colouring, count, threes, colours).limit, 20000)
                    continue
                self.assertEqual(unchanged(self, colouring, count, threes, colours, limit=tried), told)
                self.assertEqual(colouring(count, threes, colours), told)
                self.assertEqual(raised(self, TooMany, colouring, count, threes, colours, limit=tried - 1).limit, tried - 1)
                self.assertEqual(raised(self, TooMany, colouring, count, threes, colours, limit=0).limit, 0)
                if told is not None:
                    self.assertIs(check_colouring(count, threes, colours, told), True)

    def test_limits(self):
        # One point, one colour; a three, for which the last point comes back to nothing that fits.
        self.assertEqual(colouring(1, [], 1, limit=1), (0,))
        self.assertEqual(raised(self, TooMany, colouring, 1, [], 10, limit=0).limit, 0)
        self.assertIsNone(colouring(3, [(0, 1, 2)], 1, limit=2))
        self.assertEqual(raised(self, TooMany, colouring, 3, [(0, 1, 2)], 1, limit=1).limit, 1)
        self.assertEqual(colouring(3, [(0, 1, 2)], 2, limit=3), (0, 0, 1))
        self.assertEqual(raised(self, TooMany, colouring, 3, [(0, 1, 2)], 2, limit=2).limit, 2)

    def test_no_threes(self):
        for count in (1, 2, 9, 60):
            for colours in (1, 2, 10):
                self.assertEqual(colouring(count, [], colours), (0,) * count)
                self.assertEqual(colouring(count, (), colours, limit=count), (0,) * count)
                self.assertIs(check_colouring(count, [], colours, [colours - 1] * count), True)

    def test_whole_systems(self):
        for count, threes in ((3, [(0, 1, 2)]), (7, FANO), (9, NINE), (13, THIRTEEN), (13, OTHER_THIRTEEN), (15, threes_by_search(("binary", 4)))):
            self.assertIsNone(colouring(count, threes, 1))
            if count == 3:
                self.assertEqual(colouring(count, threes, 2), (0, 0, 1))
            else:
                self.assertIsNone(colouring(count, threes, 2))
                self.assertEqual(colouring(count, threes, 3), tried_by_words(count, threes, 3)[0])
        self.assertEqual(colouring(1, [], 1), (0,))
        self.assertEqual(colouring(7, FANO, 3), all_colourings(7, FANO, 3)[0])
        self.assertEqual(set(colouring(15, threes_by_search(("binary", 4)), 3)), {0, 1, 2})

    def test_deep_search(self):
        threes = all_threes(("bose", 57))
        told = colouring(60, threes, 10)
        self.assertIs(check_colouring(60, threes, 10, told), True)
        self.assertEqual(told[57:], (0, 0, 0))

    def test_numbers_of_colours(self):
        for colours in (0, 11, -1, 12, -10 ** 40, 10 ** 40):
            for count, threes in ((1, []), (7, FANO), (60, [])):
                raised(self, InvalidQuestion, colouring, count, threes, colours)
                raised(self, InvalidQuestion, colouring, count, threes, colours, limit=0)
                for told in ([], [0] * count):
                    raised(self, InvalidQuestion, check_colouring, count, threes, colours, told)

    def test_no_partial_systems(self):
        for colours in (1, 2, 0, 11, -1):
            for count in NO_COUNTS:
                raised(self, InvalidSystem, colouring, count, [], colours, limit=0)
                raised(self, InvalidSystem, check_colouring, count, [], colours, [])
            for three in NO_THREES:
                raised(self, InvalidSystem, colouring, 9, [three], colours, limit=0)
                raised(self, InvalidSystem, check_colouring, 9, [three], colours, [0] * 9)
            for threes in ([(0, 1, 2), (2, 1, 0)], [(0, 1, 2), (0, 1, 3)], FANO + [(0, 1, 2)]):
                raised(self, InvalidSystem, colouring, 9, threes, colours)
                raised(self, InvalidSystem, check_colouring, 9, threes, colours, [])


class Checking(unittest.TestCase):
    def test_all_rows_of_integers(self):
        for count, threes in SMALL:
            for colours in (1, 2, 3):
                if colours ** count > 800:
                    continue
                for told in product(range(colours), repeat=count):
                    self.assertIs(check_colouring(count, threes, colours, told), fits(threes, told))
                told = [0] * count
                unchanged(self, check_colouring, count, threes, colours, told)

    def test_lists_and_tuples(self):
        for told in ((0, 0, 1), [0, 0, 1], (2, 1, 0), [9, 9, 8]):
            self.assertIs(check_colouring(3, [[2, 0, 1]], 10, told), True)
        for told in ((0, 0, 0), [9, 9, 9]):
            self.assertIs(check_colouring(3, [[2, 0, 1]], 10, told), False)

    def test_too_few_and_too_many(self):
        for count, threes in SMALL:
            told = list(colouring(count, threes, 10))
            for strange in (told[:-1], told + [0], [], told + told, told + [99]):
                self.assertIs(check_colouring(count, threes, 10, strange), False)
                self.assertIs(check_colouring(count, threes, 10, tuple(strange)), False)

    def test_strange_integers(self):
        for count, threes in SMALL:
            for colours in (1, 2, 3, 10):
                told = colouring(count, threes, colours)
                if told is None:
                    continue
                for at in range(count):
                    for strange in (-1, colours, colours + 1, 10 ** 40, -10 ** 40):
                        self.assertIs(check_colouring(count, threes, colours, list(told[:at]) + [strange] + list(told[at + 1:])), False)

    def test_one_colour_at_one_three(self):
        for three in combinations(range(7), 3):
            told = [0 if point in three else 1 + point % 2 for point in range(7)]
            right = not any(len({told[point] for point in other}) == 1 for other in FANO)
            self.assertIs(check_colouring(7, FANO, 3, told), right)
