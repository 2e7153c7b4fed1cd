import unittest
from itertools import product

from paironce.errors import InvalidSystem, InvalidTerm, TooMany
from paironce.plain import equal_everywhere, parting
from paironce.trying import first_difference, holds_in
from helper import (FANO, GREAT, MADE, NINE, NO_TREES, SMALL, as_lists, comes_to, leaves_of, points_in, raised,
                    run_examples, terms_with, third_table, unchanged)
from test_plain import some_terms
from test_terms import left, no_terms

MEDIAL = ((("a", "b"), ("c", "d")), (("a", "c"), ("b", "d")))
SPREAD = (("x", ("y", "z")), (("x", "y"), ("x", "z")))
TURNED = (("x", ("y", "z")), ("y", ("x", "z")))


def first_by_search(tree, one, other):
    """Points for the names, all tried in their order."""
    names = sorted(set(leaves_of(one) + leaves_of(other)))
    table = third_table(tree)
    for told in product(range(points_in(tree)), repeat=len(names)):
        points = dict(zip(names, told))
        if comes_to(table, one, points) != comes_to(table, other, points):
            return points
    return None


class Differences(unittest.TestCase):
    def test_examples(self):
        run_examples(self, """
>>> from paironce.trying import first_difference, holds_in
>>> one, other = ("x", ("y", "z")), ("y", ("x", "z"))
>>> (holds_in(("binary", 2), ("x", "y"), ("y", "x")), first_difference(("affine", 1), one, other))
(True, {'x': 0, 'y': 1, 'z': 0})
""")

    def check(self, tree, one, other):
        expected = first_by_search(tree, one, other)
        told = unchanged(self, first_difference, tree, one, other)
        self.assertEqual(told, expected, (tree, one, other))
        self.assertEqual(first_difference(tree, as_lists(other), one), expected)
        self.assertIs(unchanged(self, holds_in, tree, one, other), expected is None)
        if told is not None:
            self.assertEqual(list(told), sorted(told))

    def test_laws_in_small_systems(self):
        for tree in SMALL:
            for one, other in (SPREAD, TURNED, (("x", "y"), "x"), ("x", "y")):
                if points_in(tree) <= 21:
                    self.check(tree, one, other)
        for tree in SMALL:
            if points_in(tree) <= 9:
                self.check(tree, *MEDIAL)

    def test_known_laws(self):
        for k in (1, 2):
            self.assertIs(holds_in(("affine", k), *MEDIAL), True)
            self.assertIs(holds_in(("affine", k), *SPREAD), True)
        self.assertIs(holds_in(("affine", 3), *SPREAD, limit=27 ** 3), True)
        self.assertIs(holds_in(("skolem", 7), *SPREAD), False)
        self.assertIs(holds_in(("binary", 3), *MEDIAL), False)

    def test_terms_of_two_names(self):
        terms = terms_with(("x", "y"), 3) + ["x", "y", ("y", "x")]
        for tree in (("listed", 1, ()), ("bose", 3), ("skolem", 7), ("bose", 9)):
            for one in terms:
                for other in terms:
                    self.check(tree, one, other)

    def test_some_terms(self):
        terms = some_terms(40, ("b", "a", "c1"), 9)
        for tree in (("bose", 3), ("skolem", 7), ["listed", 9, NINE], ("double", ("bose", 3))):
            for one, other in zip(terms, terms[1:]):
                self.check(tree, one, other)
        terms = some_terms(24, ("q", "b", "a1", "a10"), 8)
        for one, other in zip(terms, terms[1:]):
            self.check(("listed", 7, FANO), one, other)

    def test_terms_that_are_equal_everywhere(self):
        for tree in SMALL:
            self.assertIsNone(first_difference(tree, ("x", ("y", "x")), "y", limit=10 ** 4))
            self.assertIs(holds_in(tree, ("x", "y"), ["y", "x"]), True)
        for tree in GREAT:
            self.assertIs(holds_in(tree, ("x", "x"), "x", limit=points_in(tree)), True)
            self.assertIsNone(first_difference(tree, ("x", ("y", "x")), "y", limit=10 ** 100))

    def test_names_that_make_no_difference(self):
        self.assertEqual(first_difference(("bose", 9), ("a", ("a", "m")), "z"), {"a": 0, "m": 0, "z": 1})
        self.assertEqual(first_difference(("bose", 9), ("z", ("m", "z")), "a"), {"a": 0, "m": 1, "z": 0})
        self.check(("skolem", 7), ("a", ("a", "m")), ("b", ("m", "b")))
        self.check(("skolem", 7), (("a", "c"), (("c", "a"), "m")), ("m", "b"))

    def test_great_systems(self):
        for tree in GREAT:
            told = first_difference(tree, ("x", "y"), "y", limit=10 ** 60)
            self.assertEqual(told, {"x": 0, "y": 1})
            told = first_difference(tree, "y", "x", limit=10 ** 60)
            self.assertEqual(told, {"x": 0, "y": 1})

    def test_systems_of_one_and_of_three_points(self):
        one_point = ("product", ("listed", 1, ()), ("listed", 1, ()))
        for one, other in (SPREAD, MEDIAL, TURNED, ("x", "y"), (("x", "y"), "x"), (left(200), left(200, "y"))):
            self.assertIs(holds_in(one_point, one, other), True)
            self.assertIs(holds_in(("listed", 1, []), one, other, limit=1), True)
        for tree in (("bose", 3), ("affine", 1), ("binary", 2), ("double", ("listed", 1, []))):
            self.assertIs(holds_in(tree, *MEDIAL), True)
            self.assertIs(equal_everywhere(*MEDIAL), False)
            self.assertIs(holds_in(tree, *TURNED), False)

    def test_partings_tell_of_some_system(self):
        # What is unlike in one of the systems has a parting; what has none is alike in all of them.
        terms = some_terms(20, ("x", "y", "z"), 7)
        for tree in SMALL[:6] + MADE[:1]:
            for one, other in zip(terms, terms[2:]):
                if parting(one, other) is None:
                    self.assertIs(holds_in(tree, one, other), True)
                if points_in(tree) <= 21 and not holds_in(tree, one, other):
                    self.assertIsNotNone(parting(one, other))

    def test_deep_terms(self):
        one, other = MEDIAL
        for at in range(190):
            one, other = ("abcd"[at % 2], one), ("abcd"[at % 2], other)
        self.assertIs(holds_in(("affine", 1), one, other), True)
        told = first_difference(("skolem", 7), one, other)
        self.assertEqual(told, first_by_search(("skolem", 7), one, other))

    def test_what_is_told_is_new(self):
        told = first_difference(("bose", 9), "x", "y")
        told["x"] = 5
        self.assertEqual(first_difference(("bose", 9), "x", "y"), {"x": 0, "y": 1})


class Limits(unittest.TestCase):
    def test_limits(self):
        for tree in (("bose", 3), ("skolem", 7), ("affine", 2), ("double", ("bose", 9)), ("listed", 1, ())):
            count = points_in(tree)
            for one, other, names in (("x", "x", 1), (("x", "x"), ["x", "x"], 1), ("x", ("x", "x"), 1), ("x", "y", 2),
                                      (("x", "y"), "x", 2), (("x", ("x", "y")), ("z", "z"), 3), ("a", ("b", ("c", "b")), 3)):
                for call in (first_difference, holds_in):
                    call(tree, one, other, limit=count ** names)
                    error = raised(self, TooMany, call, tree, one, other, limit=count ** names - 1)
                    self.assertEqual(error.limit, count ** names - 1)

    def test_limits_of_their_own(self):
        for call in (first_difference, holds_in):
            call(("skolem", 97), "x", "y")
            call(("bose", 99), ("x", "y"), "x")
            self.assertEqual(raised(self, TooMany, call, ("skolem", 103), "x", "y").limit, 10000)
            self.assertEqual(raised(self, TooMany, call, ("bose", 10005), "x", "x").limit, 10000)
            call(("bose", 9999), "x", "x")
            self.assertEqual(raised(self, TooMany, call, ("affine", 60), ("x", "y"), ("y", "x")).limit, 10000)
            self.assertEqual(raised(self, TooMany, call, ("bose", 3), "x", "x", limit=0).limit, 0)

    def test_many_names(self):
        one = "a0"
        for at in range(1, 200):
            one = (one, "a%d" % at)
        error = raised(self, TooMany, holds_in, ("bose", 3), one, "x", limit=3 ** 201 - 1)
        self.assertEqual(error.limit, 3 ** 201 - 1)
        self.assertEqual(first_difference(("bose", 3), one, "x", limit=3 ** 201)["x"], 1)


class OrderOfErrors(unittest.TestCase):
    def test_terms_first(self):
        for told in no_terms():
            for call in (first_difference, holds_in):
                for one, other in ((told, "x"), ("x", told), (told, told)):
                    with self.assertRaises(InvalidTerm):
                        call(("box", 3), one, other, limit=0)

    def test_then_systems(self):
        for tree in NO_TREES:
            for call in (first_difference, holds_in):
                raised(self, InvalidSystem, call, tree, "x", ("x", "y"), limit=0)
                raised(self, InvalidSystem, call, tree, "x", "x")
