import unittest
from itertools import product

from paironce.errors import InvalidSystem, InvalidTerm, UnknownName, UnknownPoint
from paironce.terms import check_term, leaf_count, names_of, replaced, term_text, value
from helper import (FANO, GREAT, NAMES, NINE, NO_NAMES, NO_TREES, SMALL, as_lists, as_tuples, comes_to, is_three,
                    leaves_of, parts_of, points_in, raised, run_examples, terms_with, text_of, third_table, turned,
                    unchanged)

ALONE = [("x", "y"), ["x", "y"], ("x", ["y", ("x", "z")]), [["x", "x"], ("x", "x")], ("a1", ("b2", ("c3", "a1")))]


def left(many, name="x"):
    """A term with so many names, deep on its first side."""
    term = name
    for _ in range(many - 1):
        term = (term, name)
    return term


def bushy(many):
    """A term with so many names that is deep on both sides."""
    if many == 1:
        return "y"
    return [bushy(many // 2), bushy(many - many // 2)]


def endless():
    term = ["x"]
    term.append(term)
    other = []
    other.extend((other, other))
    return [term, other]


NO_SIDES = list(NO_NAMES) + [None, 0, 7, -1, 2 ** 80, b"x", (), [], ("x",), ["x"], ("x", "y", "z"), ["x", "y", "z"],
                             {}, {"x": "y"}, {"x", "y"}, frozenset("xy"), ("x", None), (0, 1), ((), "x"), ["x", ["y"]],
                             2.5, object]


def no_terms():
    told = list(NO_SIDES) + endless()
    for side in NO_SIDES:
        told += [("x", side), [side, "x"], ("x", ("y", side)), (("x", [side, "z"]), "y"), (side, side)]
    return told + [left(201), turned(left(201)), as_lists(left(201)), bushy(201), (bushy(100), bushy(101)), left(230)]


class Terms(unittest.TestCase):
    def test_examples(self):
        run_examples(self, """
>>> from paironce.terms import names_of, term_text, value
>>> (term_text(("x", ("y", "x"))), names_of(("x", ("y", "x"))))
('(x (y x))', ['x', 'y'])
>>> value(("affine", 2), ("x", ("y", "z")), {"x": 0, "y": 1, "z": 3})
4
""")

    def test_names(self):
        for name in NAMES:
            self.assertIsNone(check_term(name))
            self.assertEqual(leaf_count(name), 1)
            self.assertEqual(names_of(name), [name])
            self.assertEqual(term_text(name), name)
            self.assertIsNone(check_term((name, [name, "y"])))

    def test_pairs(self):
        for term in ALONE + terms_with(("x", "b7"), 4) + [left(9), turned(left(9)), bushy(11)]:
            for told in (term, as_lists(term), as_tuples(term)):
                self.assertIsNone(unchanged(self, check_term, told))
                self.assertEqual(unchanged(self, leaf_count, told), len(leaves_of(term)))
                self.assertEqual(unchanged(self, names_of, told), sorted(set(leaves_of(term))))
                self.assertEqual(unchanged(self, term_text, told), text_of(term))

    def test_as_many_names_as_can_be(self):
        for term in (left(200), turned(left(200)), as_lists(left(200)), bushy(200), as_tuples(bushy(200)),
                     (bushy(100), left(100)), turned(as_tuples((left(150), turned(left(50)))))):
            self.assertIsNone(unchanged(self, check_term, term))
            self.assertEqual(leaf_count(term), 200)
            self.assertEqual(term_text(term), text_of(term))
            self.assertEqual(names_of(term), sorted(set(leaves_of(term))))

    def test_texts_of_a_deep_term(self):
        self.assertEqual(term_text(left(200)), "(" * 199 + "x" + " x)" * 199)
        self.assertEqual(term_text(turned(left(200))), "(x " * 199 + "x" + ")" * 199)

    def test_names_are_ascending_and_new(self):
        term = ("b", ("a10", ("a9", ("a", "b"))))
        self.assertEqual(names_of(term), ["a", "a10", "a9", "b"])
        names_of(term).append("c")
        self.assertEqual(names_of(term), ["a", "a10", "a9", "b"])

    def test_what_is_no_term(self):
        for told in no_terms():
            for call in (check_term, leaf_count, names_of, term_text):
                with self.assertRaises(InvalidTerm):
                    call(told)

    def test_arguments_stay_when_it_is_no_term(self):
        for call in (check_term, leaf_count, names_of, term_text):
            raised(self, InvalidTerm, call, ["x", ["y", ["z", "Z"]]])


def replaced_by_rules(term, table):
    if isinstance(term, str):
        return as_tuples(table.get(term, term))
    return tuple(replaced_by_rules(side, table) for side in term)


class Replaced(unittest.TestCase):
    def test_all_at_once(self):
        self.assertEqual(replaced(("x", ["y", "x"]), {"x": "y", "y": "x"}), ("y", ("x", "y")))
        self.assertEqual(replaced(["x", "y"], {"x": ["y", "y"], "y": "x"}), (("y", "y"), "x"))
        self.assertEqual(replaced("x", {"x": ["x", ["x", "x"]]}), ("x", ("x", "x")))
        self.assertEqual(replaced(("x", "y"), {"x": "y", "y": "z", "z": "x"}), ("y", "z"))

    def test_nothing(self):
        for term in ALONE + terms_with(("x", "y"), 4):
            told = unchanged(self, replaced, term, {})
            self.assertEqual(repr(told), repr(as_tuples(term)))

    def test_names_that_stand_in_no_place(self):
        self.assertEqual(replaced(("x", "y"), {"z": ("x", "x"), "xx": "y"}), ("x", "y"))
        self.assertEqual(replaced("x", {"y": left(200)}), "x")
        self.assertEqual(replaced(("x", "y"), {"z": "y", "y": "z"}), ("x", "z"))

    def test_by_rules(self):
        tables = [{"x": "y"}, {"x": ["y", ("z", "x")], "y": ("x", ["x", "x"])}, {"y": "x", "x": "y", "z": ["z", "z"]}]
        for term in ALONE + terms_with(("x", "y", "z"), 3) + [left(30), bushy(30)]:
            for table in tables:
                told = unchanged(self, replaced, term, table)
                self.assertEqual(repr(told), repr(replaced_by_rules(term, table)))

    def test_as_many_names_as_can_be(self):
        self.assertEqual(replaced(("x", "x"), {"x": left(100, "y")}), (left(100, "y"), left(100, "y")))
        self.assertEqual(replaced("x", {"x": left(200)}), left(200))
        self.assertEqual(replaced(left(200), {"x": "y"}), left(200, "y"))
        self.assertEqual(leaf_count(replaced(("x", "y"), {"x": left(199)})), 200)
        self.assertEqual(leaf_count(replaced(left(199, "x"), {"y": ("x", "x")})), 199)

    def test_too_many_names(self):
        raised(self, InvalidTerm, replaced, ("x", "x"), {"x": left(101, "y")})
        raised(self, InvalidTerm, replaced, ("x", "y"), {"x": left(200)})
        raised(self, InvalidTerm, replaced, left(200), {"x": ("x", "x")})
        raised(self, InvalidTerm, replaced, (left(199), "y"), {"y": ("x", "x")})
        raised(self, InvalidTerm, replaced, left(200), {"x": left(200)})

    def test_what_is_no_term(self):
        for told in no_terms():
            for term, table in ((told, {}), (told, {"x": "y"}), ("x", {"x": told}), ("y", {"x": told}),
                                (("x", "y"), {"a": "b", "y": "x", "z": told}), (told, {"x": told, "y": told})):
                with self.assertRaises(InvalidTerm):
                    replaced(term, table)

    def test_keys_that_are_no_names(self):
        for key in NO_NAMES + (None, 0, 7, ("x", "y"), (), b"x"):
            raised(self, InvalidTerm, replaced, "x", {key: "x"})
            raised(self, InvalidTerm, replaced, ("x", "y"), {"x": "y", key: "x", "y": "z"})
            raised(self, InvalidTerm, replaced, ("x", ""), {key: "X"})


TERMS = terms_with(("a", "b"), 3) + [
    "a", ["a", "a"], ("a", ["b", ["c", "a"]]), [("a", "b"), ("c", "a")], (("a", ("a", "b")), ("c", "c")),
    ((("a", "b"), "c"), (("b", "c"), "a")), [[["a", "b"], "b"], "b"], ("c", (("a", "b"), ("b", "a"))), left(7, "c"),
    turned(left(6, "a")), ("a", (("b", "c"), ("a", ("b", ("c", "a"))))),
]


class Value(unittest.TestCase):
    def test_small_systems(self):
        for tree in SMALL:
            table = third_table(tree)
            count = points_in(tree)
            chosen = sorted({0, 1, 2, count // 2, count - 2, count - 1} & set(range(count)))
            for a, b, c in product(chosen, repeat=3):
                points = {"c": c, "a": a, "b": b}
                for term in TERMS:
                    self.assertEqual(value(tree, term, points), comes_to(table, term, points), (tree, term, points))

    def test_all_points_of_small_systems(self):
        for tree in (("bose", 9), ("skolem", 7), ("double", ("listed", 3, [(0, 2, 1)])), ("affine", 2)):
            table = third_table(tree)
            for a, b, c in product(range(points_in(tree)), repeat=3):
                points = {"a": a, "b": b, "c": c}
                for term in TERMS[-6:]:
                    self.assertEqual(value(tree, term, points), comes_to(table, term, points))

    def test_great_systems(self):
        for tree in GREAT:
            count = points_in(tree)
            for a, b, c in product((0, 1, count // 2, count // 3, count - 2, count - 1), repeat=3):
                points = {"a": a, "b": b, "c": c}
                for term in TERMS[-5:]:
                    for part in parts_of(term):
                        told = value(tree, part, points)
                        if isinstance(part, str):
                            self.assertEqual(told, points[part])
                            continue
                        one, other = [value(tree, side, points) for side in part]
                        if one == other:
                            self.assertEqual(told, one)
                        else:
                            self.assertTrue(is_three(tree, [one, other, told]), (tree, part, points))

    def test_arguments_stay(self):
        self.assertEqual(unchanged(self, value, ["bose", 9], ["x", ["y", "x"]], {"x": 0, "y": 4}), 4)
        tree = ["double", ["listed", 7, FANO]]
        unchanged(self, value, tree, ["x", ("y", "x")], {"y": 3, "x": 14, "z": 99})

    def test_sides_that_come_to_the_same_point(self):
        for tree in SMALL + GREAT:
            last = points_in(tree) - 1
            self.assertEqual(value(tree, ("x", "x"), {"x": last}), last)
            self.assertEqual(value(tree, ("x", ["y", ("x", "y")]), {"x": last, "y": 0}), last)
            self.assertEqual(value(tree, ("x", "y"), {"x": last, "y": last}), last)

    def test_deep_terms(self):
        for tree in (("skolem", 7), ("affine", 60), ("listed", 9, NINE)):
            for many in (199, 200):
                for term in (left(many), bushy(many), turned(left(many))):
                    self.assertEqual(value(tree, term, {"x": 4, "y": 4}), 4)
                term = ("y", turned(left(many - 1)))
                third = value(tree, ("x", "y"), {"x": 4, "y": 2})
                self.assertEqual(value(tree, term, {"x": 4, "y": 2}), third)

    def test_names_that_do_not_stand_in_the_term(self):
        points = {"x": 0, "y": 1, "z": 99, "w": -1, "X": 5, "": 3}
        self.assertEqual(value(("affine", 1), ("x", "y"), points), 2)
        self.assertEqual(value(("affine", 1), "y", points), 1)

    def test_the_system_of_one_point(self):
        for term in TERMS:
            for tree in (("listed", 1, ()), ("product", ("listed", 1, []), ("listed", 1, []))):
                self.assertEqual(value(tree, term, {"a": 0, "b": 0, "c": 0}), 0)

    def test_systems_of_three_points(self):
        one, other = (("a", "b"), ("c", "d")), (("a", "c"), ("b", "d"))
        for tree in (("bose", 3), ("affine", 1), ("binary", 2), ("listed", 3, [(0, 1, 2)]), ("double", ("listed", 1, ()))):
            for told in product(range(3), repeat=4):
                points = dict(zip("abcd", told))
                self.assertEqual(value(tree, one, points), value(tree, other, points))
        told = [dict(zip("abcd", points)) for points in product(range(7), repeat=4)]
        self.assertTrue(any(value(("skolem", 7), one, points) != value(("skolem", 7), other, points) for points in told))

    def test_terms_in_the_place_of_names(self):
        table = {"a": ("b", ["c", "b"]), "b": "a", "c": [("a", "b"), "a"]}
        for tree in (("bose", 9), ("skolem", 13), ("affine", 3), ("binary", 4), ("double", ("bose", 9)), GREAT[6]):
            count = points_in(tree)
            for a, b, c in product((0, 1, count // 2, count - 1), repeat=3):
                points = {"a": a, "b": b, "c": c}
                for term in TERMS:
                    inner = {name: value(tree, table[name], points) for name in table}
                    self.assertEqual(value(tree, replaced(term, table), points), value(tree, term, inner))


class ErrorsOfValue(unittest.TestCase):
    def test_invalid_terms(self):
        for told in no_terms():
            with self.assertRaises(InvalidTerm):
                value(("bose", 9), told, {"x": 0, "y": 0, "z": 0})
        for tree in NO_TREES[:6]:
            raised(self, InvalidTerm, value, tree, ("x", "Y"), {})

    def test_invalid_systems(self):
        for tree in NO_TREES:
            raised(self, InvalidSystem, value, tree, ("x", "y"), {"x": 0, "y": 0})
            raised(self, InvalidSystem, value, tree, ("x", "y"), {"x": -1})

    def test_unknown_names(self):
        term = ("c", (["b", "a"], "d"))
        for points, name in (({}, "a"), ({"a": 0}, "b"), ({"d": 0, "c": 0, "a": 0}, "b"), ({"b": 0, "d": 1}, "a"),
                             ({"a": 99, "b": -1, "c": 0, "x": 0}, "d"), ({"a": 0, "b": 0, "d": 0}, "c")):
            error = raised(self, UnknownName, value, ("bose", 9), term, points)
            self.assertEqual(error.name, name)
        self.assertEqual(raised(self, UnknownName, value, ("bose", 9), ("a9", "a10"), {}).name, "a10")

    def test_unknown_points(self):
        term = ["c", ["b", "a"]]
        for points, point in (({"a": 9, "b": 10, "c": 11}, 9), ({"c": -1, "b": 9, "a": 0}, 9), ({"a": 8, "b": 0, "c": 9}, 9),
                              ({"a": 0, "b": -1, "c": -2}, -1), ({"a": 10 ** 40, "b": 0, "c": 0}, 10 ** 40)):
            error = raised(self, UnknownPoint, value, ("bose", 9), term, points)
            self.assertEqual(error.point, point)
        for tree in SMALL + GREAT:
            for point in (-1, points_in(tree)):
                self.assertEqual(raised(self, UnknownPoint, value, tree, "x", {"x": point}).point, point)
