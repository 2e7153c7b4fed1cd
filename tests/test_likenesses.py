import random
import unittest
from itertools import permutations

from paironce.errors import InvalidQuestion, InvalidSystem, TooMany
from paironce.likenesses import (are_alike, base_of, is_likeness, likeness, likeness_count, likenesses, places_of)
from paironce.renaming import listed, one_after_another, renamed, turned_back
from helper import (FANO, GREAT, NINE, NO_TREES, OTHER_THIRTEEN, SMALL, THIRTEEN, doubled, exchanged, fours_in, points_in, raised,
                    run_examples, third_table, threes_by_search, unchanged)

A = ("listed", 13, THIRTEEN)
B = ["listed", 13, OTHER_THIRTEEN]
# The threes of each system are found once, as the search takes long.
LITTLE = [tree for tree in SMALL if points_in(tree) <= 9]
MIDDLE = [tree for tree in SMALL if 9 < points_in(tree) <= 31] + [A, B]
THREES = {repr(tree): threes_by_search(tree) for tree in LITTLE + MIDDLE}
BEYOND = [("skolem", 61), ["bose", 63], ("affine", 4), ("binary", 6), ("double", ("binary", 5)), GREAT[0], GREAT[-1]]


def some_names(count, chance):
    names = list(range(count))
    chance.shuffle(names)
    return names


def all_by_orders(one, other):
    """All likenesses of two little systems: all orders of the points, tried one after another."""
    if points_in(one) != points_in(other):
        return []
    there = set(THREES[repr(other)])
    return [images for images in permutations(range(points_in(other)))
            if all(tuple(sorted((images[a], images[b], images[c]))) in there for a, b, c in THREES[repr(one)])]


def all_by_steps(one, other):
    """All likenesses, by giving images to the points one after another: any, or that which the threes tell."""
    table = third_table(other)
    count = points_in(other)
    ending = [[three for three in threes_by_search(one) if three[2] == point] for point in range(count)]
    told = []

    def enter(images):
        if len(images) == count:
            told.append(tuple(images))
            return
        thirds = {table[images[a], images[b]] for a, b, _ in ending[len(images)]}
        for image in sorted(thirds or range(count)):
            if image not in images and len(thirds) < 2:
                enter(images + [image])

    enter([])
    return told


def base_by_words(tree):
    """The points that are not made by those ahead of them (point 83)."""
    table = third_table(tree)
    told, made = [], set()
    for point in range(points_in(tree)):
        if point not in made:
            told.append(point)
            made.add(point)
            new = True
            while new:
                new = {table[a, b] for a in made for b in made if a != b} - made
                made |= new
    return told


def places_by_likenesses(told):
    return sorted({tuple(sorted({images[point] for images in told})) for point in range(len(told[0]))})


class Little(unittest.TestCase):
    @classmethod
    def setUpClass(cls):
        # One tree for each number of points against all others, and each tree against itself.
        firsts = [("listed", 1, []), ("bose", 3), ("skolem", 7), ["affine", 2], ("listed", 7, FANO)]
        cls.told = [(one, other, all_by_orders(one, other)) for one in firsts for other in LITTLE]

    def test_examples(self):
        run_examples(self, """
>>> from paironce.likenesses import base_of, likeness, likeness_count
>>> (base_of(("affine", 2)), likeness(("binary", 2), ("affine", 1)), likeness_count(("binary", 3), ("skolem", 7)))
([0, 1, 3], (0, 1, 2), 168)
""")

    def test_likenesses(self):
        for one, other, told in self.told:
            self.assertEqual(repr(unchanged(self, likenesses, one, other)), repr(told))
            self.assertEqual(unchanged(self, likeness_count, one, other), len(told))
            self.assertEqual(repr(unchanged(self, likeness, one, other)), repr(told[0] if told else None))
            self.assertIs(unchanged(self, are_alike, one, other), bool(told))

    def test_numbers(self):
        numbers = {1: 1, 3: 6, 7: 168, 9: 432}
        for one in LITTLE:
            for other in LITTLE:
                told = numbers[points_in(one)] if points_in(one) == points_in(other) else 0
                self.assertEqual(likeness_count(one, other), told)

    def test_is_likeness(self):
        for one, other, told in self.told:
            count = points_in(other)
            for images in told[::7]:
                self.assertIs(unchanged(self, is_likeness, one, other, list(images)), True)
                self.assertIs(is_likeness(one, other, images), True)
            if count <= 7:
                right = set(told)
                for images in permutations(range(count)):
                    if count <= 3 or images in right or sum(images[:3]) % 4 == 0:
                        self.assertIs(is_likeness(one, other, images), images in right)

    def test_limits(self):
        for one, other, told in self.told[::3]:
            many = len(told)
            self.assertEqual(likenesses(one, other, limit=many), told)
            self.assertEqual(likeness_count(one, other, limit=many), many)
            for limit in (many - 1, many // 2, 0):
                if 0 <= limit < many:
                    self.assertEqual(raised(self, TooMany, likenesses, one, other, limit=limit).limit, limit)
                    self.assertEqual(raised(self, TooMany, likeness_count, one, other, limit=limit).limit, limit)

    def test_places(self):
        for one, other, told in self.told:
            if one == other:
                self.assertEqual(unchanged(self, places_of, one), [tuple(range(points_in(one)))])
                self.assertEqual(places_of(one, limit=len(told)), places_by_likenesses(told))
                self.assertEqual(raised(self, TooMany, places_of, one, limit=len(told) - 1).limit, len(told) - 1)

    def test_lists_are_new(self):
        likenesses(("bose", 3), ("bose", 3)).clear()
        self.assertEqual(len(likenesses(("bose", 3), ("bose", 3))), 6)
        base_of(("bose", 3)).clear()
        self.assertEqual(base_of(("bose", 3)), [0, 1])
        places_of(("bose", 3)).clear()
        self.assertEqual(places_of(("bose", 3)), [(0, 1, 2)])


class Images(unittest.TestCase):
    def test_no_likenesses(self):
        for tree in LITTLE + MIDDLE:
            count = points_in(tree)
            images = list(likeness(tree, tree))
            self.assertIs(is_likeness(tree, tree, images), True)
            for told in (images[:-1], images + [0], images + [count], [], images[:-1] + [count], [-1] + images[1:],
                         images[:-1] + [10 ** 40], [image + 1 for image in images], [image - 1 for image in images]):
                self.assertIs(unchanged(self, is_likeness, tree, tree, told), False)
                self.assertIs(unchanged(self, is_likeness, tree, tree, tuple(told)), False)
            if count > 1:
                self.assertIs(is_likeness(tree, tree, images[:-1] + images[:1]), False)
                self.assertIs(is_likeness(tree, tree, [0] * count), False)
            if count > 3:
                self.assertIs(is_likeness(tree, tree, images[1::-1] + images[2:]), False)

    def test_unlike_numbers_of_points(self):
        for one, other in ((("bose", 3), ("listed", 1, ())), (("bose", 9), ("skolem", 7)), (("skolem", 7), ("bose", 9)),
                           (("bose", 27), ("skolem", 31)), (("binary", 5), ("binary", 4))):
            for images in (range(points_in(one)), range(points_in(other)), []):
                self.assertIs(is_likeness(one, other, list(images)), False)
            self.assertIsNone(likeness(one, other))
            self.assertEqual(likenesses(one, other, limit=0), [])
            self.assertEqual(likeness_count(one, other, limit=0), 0)
            self.assertIs(are_alike(one, other), False)

    def test_renamed(self):
        chance = random.Random(4)
        for tree in MIDDLE + [("skolem", 55), ("bose", 57), ("product", ("skolem", 7), ("skolem", 7))]:
            names = some_names(points_in(tree), chance)
            other = renamed(tree, names)
            self.assertIs(is_likeness(tree, other, names), True)
            self.assertIs(is_likeness(other, tree, turned_back(names)), True)
            self.assertIs(are_alike(tree, other), True)
            for one, two in ((tree, other), (other, tree)):
                told = likeness(one, two)
                self.assertIs(type(told), tuple)
                self.assertIs(is_likeness(one, two, told), True)
                self.assertIs(is_likeness(two, one, turned_back(told)), True)
                # It leads threes to threes.
                self.assertEqual(renamed(one, told), listed(two))

    def test_one_after_another(self):
        for tree in (A, B, ("bose", 15), ("double", ("skolem", 13))):
            told = likenesses(tree, tree)
            self.assertIn(tuple(range(points_in(tree))), told)
            for first in told[::5]:
                self.assertIn(turned_back(first), told)
                for second in told[::3]:
                    self.assertIn(one_after_another(first, second), told)


class Bases(unittest.TestCase):
    def test_bases(self):
        chance = random.Random(5)
        for tree in LITTLE + MIDDLE:
            self.assertEqual(unchanged(self, base_of, tree), base_by_words(tree))
            other = renamed(tree, some_names(points_in(tree), chance))
            self.assertEqual(base_of(other), base_by_words(other))
        self.assertEqual(base_of(("listed", 1, [])), [0])
        self.assertEqual(base_of(("binary", 5)), [0, 1, 3, 7, 15])
        self.assertEqual(base_of(("affine", 3)), [0, 1, 3, 9])
        self.assertEqual(base_of(("bose", 57)), base_by_words(("bose", 57)))

    def test_the_images_of_the_base_tell_a_likeness(self):
        for tree in (("skolem", 7), ("affine", 2), A, B):
            told = likenesses(tree, tree)
            self.assertEqual(len({tuple(images[point] for point in base_of(tree)) for images in told}), len(told))


class Middle(unittest.TestCase):
    def test_thirteen_points(self):
        chance = random.Random(6)
        for one in (A, B):
            for other in (A, B):
                named = renamed(other, some_names(13, chance))
                told = all_by_steps(one, named)
                self.assertEqual(likenesses(one, named), told)
                self.assertEqual(likenesses(named, one), sorted(turned_back(images) for images in told))
                self.assertEqual(len(told), 0 if one != other else 39 if one == A else 6)
                self.assertEqual(likeness_count(one, named), len(told))
                self.assertEqual(likeness(one, named), told[0] if told else None)
                self.assertIs(are_alike(one, named), one == other)
        self.assertIs(are_alike(A, ("skolem", 13)), True)
        self.assertIs(are_alike(("skolem", 13), B), False)

    def test_fifteen_points(self):
        chance = random.Random(7)
        named = renamed(("bose", 15), some_names(15, chance))
        told = all_by_steps(("bose", 15), named)
        self.assertEqual(likenesses(("bose", 15), named), told)
        self.assertEqual(likeness_count(named, ("bose", 15)), len(told))
        self.assertEqual(likeness_count(("binary", 4), ("double", ("skolem", 7)), limit=20160), 20160)
        self.assertEqual(raised(self, TooMany, likeness_count, ("binary", 4), ("binary", 4), limit=20159).limit, 20159)
        told = likenesses(("double", ("listed", 7, FANO)), ("binary", 4), limit=20160)
        self.assertEqual(len(set(told)), 20160)
        self.assertEqual(told, sorted(told))
        self.assertTrue(all(is_likeness(("double", ("listed", 7, FANO)), ("binary", 4), images) for images in told[::400]))

    def test_exchanged_fours(self):
        # Systems that come of one another by a few threes only.
        chance = random.Random(8)
        threes = threes_by_search(("binary", 4))
        systems = []
        for _ in range(4):
            systems.append(("listed", 15, threes))
            threes = exchanged(threes, chance.choice(fours_in(threes)))
        for one in systems:
            named = renamed(one, some_names(15, chance))
            told = likenesses(one, named, limit=20160)
            self.assertEqual(len(told), likeness_count(named, one, limit=20160))
            self.assertTrue(all(is_likeness(one, named, images) for images in told[::300]))
            for other in systems:
                self.assertEqual(are_alike(one, other), bool(all_first(one, other)))

    def test_places(self):
        chance = random.Random(9)
        for tree in MIDDLE + [("skolem", 55), ("product", ("skolem", 19), ("affine", 1))]:
            if likeness_count(tree, tree, limit=10 ** 8) > 2000:
                self.assertEqual(raised(self, TooMany, places_of, tree).limit, 2000)
                continue
            told = likenesses(tree, tree)
            places = places_by_likenesses(told)
            self.assertEqual(repr(unchanged(self, places_of, tree)), repr(places))
            self.assertEqual(places_of(tree, limit=len(told)), places)
            self.assertEqual(raised(self, TooMany, places_of, tree, limit=len(told) - 1).limit, len(told) - 1)
            names = some_names(points_in(tree), chance)
            self.assertEqual(places_of(renamed(tree, names)), sorted(tuple(sorted(names[point] for point in place)) for place in places))
        self.assertEqual([len(place) for place in places_of(B)], [6, 3, 3, 1])
        self.assertEqual(places_of(A), [tuple(range(13))])

    def test_many_likenesses(self):
        for one, other, many in ((("binary", 5), ("double", ("double", ("skolem", 7))), 9999360),
                                 (("affine", 3), ("product", ("affine", 1), ["affine", 2]), 303264),
                                 (("binary", 4), ("binary", 4), 20160)):
            for first, second in ((one, other), (other, one)):
                self.assertEqual(likeness_count(first, second, limit=many), many)
                self.assertEqual(raised(self, TooMany, likeness_count, first, second, limit=many - 1).limit, many - 1)
                self.assertEqual(raised(self, TooMany, likenesses, first, second, limit=many - 1).limit, many - 1)
                self.assertEqual(raised(self, TooMany, likenesses, first, second).limit, 2000)
                self.assertEqual(raised(self, TooMany, places_of, first, limit=many - 1).limit, many - 1)
                self.assertEqual(places_of(first, limit=many), [tuple(range(points_in(one)))])
                self.assertIs(is_likeness(first, second, likeness(first, second)), True)

    def test_as_many_with_each_system_that_is_alike(self):
        chance = random.Random(10)
        for tree in MIDDLE:
            many = likeness_count(tree, tree, limit=10 ** 8)
            other = renamed(tree, some_names(points_in(tree), chance))
            self.assertEqual(likeness_count(tree, other, limit=many), many)
            self.assertEqual(likeness_count(other, tree, limit=many), many)
            if many <= 2000:
                self.assertEqual(len(likenesses(tree, other)), many)
            for unlike in MIDDLE:
                if points_in(unlike) == points_in(tree):
                    self.assertEqual(likeness_count(tree, unlike, limit=10 ** 8), many if are_alike(tree, unlike) else 0)

    def test_not_alike(self):
        trees = [("binary", 5), ("skolem", 31), ("double", ("bose", 15)), ("bose", 27), ("affine", 3), ("double", ("skolem", 13)),
                 ("double", B), ("product", ("affine", 1), ("bose", 9)), ("bose", 57), ("product", ("skolem", 19), ("affine", 1))]
        for at, one in enumerate(trees):
            for after, other in enumerate(trees):
                alike = at == after or (one[0], other[0]) in (("affine", "product"), ("product", "affine"))
                alike = alike and points_in(one) == points_in(other)
                self.assertIs(are_alike(one, other), alike, (one, other))
                self.assertEqual(likeness(one, other) is not None, alike)


class Errors(unittest.TestCase):
    CALLS = [likeness, likenesses, likeness_count, are_alike, lambda one, other: is_likeness(one, other, [0, 5])]

    def test_no_systems(self):
        for tree in NO_TREES:
            raised(self, InvalidSystem, base_of, tree)
            raised(self, InvalidSystem, places_of, tree, limit=0)
            for call in self.CALLS:
                for other in (("bose", 9), ("bose", 63), ("bose", 4)):
                    raised(self, InvalidSystem, call, tree, other)
                raised(self, InvalidSystem, call, ("bose", 9), tree)

    def test_more_than_60_points(self):
        for tree in BEYOND:
            raised(self, InvalidQuestion, base_of, tree)
            raised(self, InvalidQuestion, places_of, tree, limit=0)
            for call in self.CALLS:
                # The first system is looked at in every way ahead of the second one.
                for other in (("bose", 9), ("bose", 63), ("bose", 4), (), tree):
                    raised(self, InvalidQuestion, call, tree, other)
                raised(self, InvalidQuestion, call, ["bose", 9], tree)
        raised(self, InvalidSystem, likeness, doubled(("bose", 9), 12), ("bose", 63))
        raised(self, InvalidQuestion, likenesses, ("bose", 63), ("bose", 63), limit=0)
        raised(self, InvalidQuestion, likeness_count, ("bose", 3), ("bose", 63), limit=0)

    def test_the_greatest_systems(self):
        for tree in (("bose", 57), ("skolem", 55), ["double", ["affine", 3]]):
            self.assertEqual(likeness(tree, tree), all_first(tree, tree))
            self.assertIs(are_alike(tree, tree), True)


def all_first(one, other):
    """A likeness of two systems by their bases alone, the first one, or None."""
    first, second = third_table(one), third_table(other)
    base = base_by_words(one)
    count = points_in(one)

    def enter(images, at):
        if at == len(base):
            return tuple(images[point] for point in range(count))
        for image in range(count):
            told = closed_images(first, second, images, base[at], image)
            found = enter(told, at + 1) if told is not None else None
            if found is not None:
                return found
        return None

    return enter({}, 0)


def closed_images(first, second, images, point, image):
    """The images, one more, and those of all points that are made; None if they do not fit."""
    images = dict(images)
    waiting = [(point, image)]
    while waiting:
        point, image = waiting.pop()
        if point in images:
            if images[point] != image:
                return None
            continue
        if image in images.values():
            return None
        waiting += [(first[point, other], second[image, images[other]]) for other in images]
        images[point] = image
    return images
