import random
import unittest

from paironce.classes import class_count, class_of, line_through, lines_of
from paironce.errors import InvalidQuestion, TooMany, UnknownPoint
from paironce.thirds import third
from helper import figures, raised, run_examples, threes_by_search

NO_FIGURES = (-10 ** 40, -1, 0, 61, 62, 10 ** 40)


def number_by(told):
    return sum(figure * 3 ** at for at, figure in enumerate(told))


def direction(k, a, b):
    """The direction of the three with two points (point 97)."""
    told = [(x - y) % 3 for x, y in zip(figures(a, 3, k), figures(b, 3, k))]
    highest = [figure for figure in told if figure != 0][-1]
    if highest == 2:
        told = [-figure % 3 for figure in told]
    return number_by(told)


def directions(k):
    return sorted({direction(k, a, 0) for a in range(1, 3 ** k)})


def line_by_words(k, way, point):
    """The three with a point and a direction, figure by figure."""
    return tuple(sorted(number_by([(x + times * y) % 3 for x, y in zip(figures(point, 3, k), figures(way, 3, k))])
                        for times in range(3)))


class Small(unittest.TestCase):
    def test_examples(self):
        run_examples(self, """
>>> from paironce.classes import class_of, lines_of
>>> (class_of(2, 0, 1), class_of(2, 5, 1), lines_of(2, 1))
(0, 2, [(0, 3, 6), (1, 4, 7), (2, 5, 8)])
""")

    def test_numbers_of_classes(self):
        for k in (1, 2, 3, 4):
            self.assertEqual(class_count(k), len(directions(k)))
        for k in range(1, 61):
            self.assertEqual(class_count(k), (3 ** k - 1) // 2)

    def test_classes_of_points(self):
        for k in (1, 2, 3, 4):
            ways = directions(k)
            for a in range(3 ** k):
                for b in range(3 ** k):
                    if a != b:
                        self.assertEqual(class_of(k, a, b), ways.index(direction(k, a, b)))

    def test_lines_through_points(self):
        for k in (1, 2, 3, 4):
            for number, way in enumerate(directions(k)):
                for point in range(3 ** k):
                    told = line_through(k, number, point)
                    self.assertEqual(repr(told), repr(line_by_words(k, way, point)))

    def test_lines_of_classes(self):
        for k in (1, 2, 3, 4):
            for number, way in enumerate(directions(k)):
                told = lines_of(k, number)
                self.assertEqual(repr(told), repr(sorted({line_by_words(k, way, point) for point in range(3 ** k)})))
                # Each point lies in one three of each class.
                self.assertEqual(sorted(point for line in told for point in line), list(range(3 ** k)))

    def test_all_threes(self):
        for k in (1, 2, 3):
            told = [line for number in range(class_count(k)) for line in lines_of(k, number)]
            self.assertEqual(sorted(told), threes_by_search(("affine", k)))
            for number in range(class_count(k)):
                for a, b, c in lines_of(k, number):
                    self.assertEqual({class_of(k, a, b), class_of(k, c, a), class_of(k, b, c)}, {number})

    def test_limits(self):
        for k in (1, 2, 3, 4, 7):
            many = 3 ** (k - 1)
            for number in (0, class_count(k) // 2, class_count(k) - 1):
                self.assertEqual(len(lines_of(k, number, limit=many)), many)
                self.assertEqual(raised(self, TooMany, lines_of, k, number, limit=many - 1).limit, many - 1)
                self.assertEqual(raised(self, TooMany, lines_of, k, number, limit=0).limit, 0)
        self.assertEqual(len(lines_of(7, 1092)), 729)
        for k in (8, 20, 60):
            self.assertEqual(raised(self, TooMany, lines_of, k, 0).limit, 1000)

    def test_lists_are_new(self):
        lines_of(1, 0).clear()
        self.assertEqual(lines_of(1, 0), [(0, 1, 2)])


class Great(unittest.TestCase):
    def test_great_numbers(self):
        chance = random.Random(16)
        for k in (5, 17, 59, 60):
            for _ in range(100):
                a, b = [chance.randrange(3 ** chance.randint(1, k)) for _ in range(2)]
                if a == b:
                    continue
                way = direction(k, a, b)
                number = class_of(k, a, b)
                line = line_through(k, number, a)
                self.assertEqual(line, tuple(sorted((a, b, third(("affine", k), a, b)))))
                self.assertEqual(line, line_by_words(k, way, a))
                self.assertEqual({line_through(k, number, point) for point in line}, {line})
                self.assertEqual(class_of(k, b, a), number)
                # The directions below this one: those of fewer figures, and those that begin as it does.
                place = k
                while way < 3 ** place:
                    place -= 1
                self.assertEqual(number, (3 ** place - 1) // 2 + way - 3 ** place)

    def test_first_and_last_classes(self):
        for k in (1, 2, 7, 59, 60):
            last = class_count(k) - 1
            self.assertEqual(line_through(k, 0, 0), (0, 1, 2))
            self.assertEqual(line_through(k, 0, 3 ** k - 1), (3 ** k - 3, 3 ** k - 2, 3 ** k - 1))
            # The greatest direction has the highest figure 1 and all others 2.
            self.assertEqual(line_through(k, last, 0), line_by_words(k, 2 * 3 ** (k - 1) - 1, 0))
            self.assertEqual(class_of(k, 0, 2 * 3 ** (k - 1) - 1), last)
            self.assertEqual((class_of(k, 0, 1), class_of(k, 2, 0)), (0, 0))


class Errors(unittest.TestCase):
    def test_figures(self):
        for k in NO_FIGURES:
            raised(self, InvalidQuestion, class_count, k)
            for a, b in ((0, 1), (0, 0), (-1, -1)):
                raised(self, InvalidQuestion, class_of, k, a, b)
                raised(self, InvalidQuestion, line_through, k, a, b)
            raised(self, InvalidQuestion, lines_of, k, 0)
            raised(self, InvalidQuestion, lines_of, k, -1, limit=0)

    def test_points(self):
        for k in (1, 2, 5, 60):
            count = 3 ** k
            for a, b, point in ((count, 0, count), (0, count, count), (-1, count, -1), (count, -1, count), (count, count, count),
                                (-1, -1, -1), (2, 10 ** 40, 10 ** 40), (-10 ** 40, 1, -10 ** 40)):
                self.assertEqual(raised(self, UnknownPoint, class_of, k, a, b).point, point)
            for point in (-1, count, 10 ** 40):
                self.assertEqual(raised(self, UnknownPoint, line_through, k, 0, point).point, point)
            for point in (0, 1, count - 1):
                raised(self, InvalidQuestion, class_of, k, point, point)

    def test_classes(self):
        for k in (1, 2, 5, 60):
            for number in (-1, class_count(k), class_count(k) + 1, -10 ** 40, 10 ** 40):
                for point in (0, -1, 3 ** k):
                    raised(self, InvalidQuestion, line_through, k, number, point)
                raised(self, InvalidQuestion, lines_of, k, number)
                raised(self, InvalidQuestion, lines_of, k, number, limit=0)
