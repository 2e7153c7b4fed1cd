import random
import unittest
from itertools import combinations

from paironce.errors import InvalidQuestion, InvalidTerm, TooMany
from paironce.plain import (Parting, check_parting, equal_everywhere, is_plain, parting, plain, plain_count,
                            plain_forms)
from helper import (NAMES, NO_NAMES, as_lists, as_tuples, in_order, leaves_of, once_changed, parts_of, plain_by_rules,
                    raised, run_examples, terms_with, turned, unchanged)
from test_terms import bushy, left, no_terms

LETTERS = "abcdefghijklmnopqrstuvwxyz"


def some_terms(many, names, leaves):
    """Terms of some names, always the same ones."""
    chance = random.Random(many)

    def term(size):
        if size == 1:
            return chance.choice(names)
        cut = chance.randrange(1, size)
        return (term(cut), term(size - cut))

    return [term(chance.randrange(1, leaves + 1)) for _ in range(many)]


SOME = terms_with(("x", "y"), 4) + some_terms(60, ("x", "y", "z1"), 12) + some_terms(30, ("b", "aa", "c"), 25)
UNLIKE = [("x", "y"), (("x", "y"), "x"), (("x", "y"), ("z", "x")), ("x", ("y", "z")), ("y", ("x", "z")), "w",
          ((("x", "y"), "z"), (("y", "z"), "x")), ("w", ("y", "y"))]


def deep():
    """A plain term with 200 names that is deep on its second side."""
    told = ("a", "b")
    for at in range(2, 200):
        told = (LETTERS[at % 7], told)
    return told


class Examples(unittest.TestCase):
    def test_examples(self):
        run_examples(self, """
>>> from paironce.plain import equal_everywhere, parting, plain, plain_count
>>> (plain(("x", ("y", ("x", "x")))), plain((("z", "y"), "x")), equal_everywhere(("x", ("x", "y")), "y"))
('y', ('x', ('y', 'z')), True)
>>> told = parting(("x", "y"), "x")
>>> (told.count, told.threes, told.names, told.ends)
(3, [(0, 1, 2)], {'x': 0, 'y': 1}, (2, 0))
>>> [plain_count(3, leaves) for leaves in (1, 2, 3, 4)]
[3, 3, 3, 9]
""")


class Plain(unittest.TestCase):
    def test_two_equal_sides(self):
        self.assertEqual(plain(("x", "x")), "x")
        self.assertEqual(plain((("x", "y"), ["x", "y"])), ("x", "y"))
        self.assertEqual(plain([("y", "x"), ("x", "y")]), ("x", "y"))

    def test_a_side_and_a_pair_with_it(self):
        for term in (("x", ("x", "y")), ("x", ("y", "x")), (("x", "y"), "x"), (["y", "x"], "x")):
            self.assertEqual(plain(term), "y")
        pair = (("a", "b"), "c")
        for term in (("c", pair), (turned(pair), "c"), (pair, "c")):
            self.assertEqual(plain(term), ("a", "b"))
        self.assertEqual(plain((("b", "a"), pair)), "c")
        self.assertEqual(plain((pair, ("a", "b"))), "c")

    def test_sides_in_order(self):
        self.assertEqual(plain(("y", "x")), ("x", "y"))
        self.assertEqual(plain(("a10", "b9")), ("b9", "a10"))
        self.assertEqual(plain(("a9", "a10")), ("a9", "a10"))
        self.assertEqual(plain(("ab", "a9")), ("a9", "ab"))
        self.assertEqual(plain((("x", "y"), "z")), ("z", ("x", "y")))
        self.assertEqual(plain((("x", "y"), "zzzz")), ("zzzz", ("x", "y")))
        # Both texts have five characters; the sign ( is ahead of letters.
        self.assertEqual(plain(("zzzzz", ("x", "y"))), (("x", "y"), "zzzzz"))
        self.assertEqual(plain(("zzzzzz", ("x", "y"))), (("x", "y"), "zzzzzz"))
        self.assertEqual(plain((("c", "d"), ("b", "a"))), (("a", "b"), ("c", "d")))

    def test_deep_inside(self):
        self.assertEqual(plain(("a", (("d", ("d", ("c", "b"))), "b"))), ("a", "c"))
        self.assertEqual(plain((("x", "x"), ("y", ("x", "x")))), "y")
        self.assertEqual(plain((("a", ("b", "c")), (("c", "b"), "a"))), ("a", ("b", "c")))
        self.assertEqual(plain([["z", ["x", ["y", "x"]]], ["z", "y"]]), ("y", "z"))

    def test_by_rules(self):
        chance = random.Random(5)
        for term in SOME:
            told = unchanged(self, plain, term)
            self.assertEqual(told, plain_by_rules(term))
            self.assertEqual(told, plain_by_rules(term, lambda ways: ways[-1]))
            self.assertEqual(told, plain_by_rules(term, chance.choice))
            self.assertEqual(unchanged(self, plain, as_lists(term)), told)
            self.assertEqual(repr(told), repr(as_tuples(told)))
            self.assertEqual(plain(turned(term)), told)

    def test_a_plain_form_is_its_own(self):
        for term in SOME:
            told = plain(term)
            self.assertEqual(plain(told), told)
            self.assertIs(is_plain(told), True)
            self.assertIs(is_plain(as_lists(told)), True)

    def test_is_plain(self):
        for term in SOME:
            self.assertIs(unchanged(self, is_plain, term), not once_changed(term))
            self.assertIs(unchanged(self, is_plain, as_lists(term)), not once_changed(term))
        for term in ("x", ("x", "y"), ["x", ("y", "z")], ("b9", "a10"), ["x", ["y", "z"]]):
            self.assertIs(is_plain(term), True)
        for term in (("x", "x"), ("y", "x"), (("y", "z"), "x"), ("x", ("x", "y")), ("x", ["z", "y"]), ["a10", "b9"]):
            self.assertIs(is_plain(term), False)

    def test_deep_terms(self):
        self.assertEqual(plain(left(200)), "x")
        self.assertEqual(plain(bushy(200)), "y")
        self.assertEqual(plain(turned(left(200))), "x")
        self.assertEqual(plain(("y", left(199))), ("x", "y"))
        told = deep()
        self.assertIs(is_plain(told), True)
        self.assertEqual(plain(turned(told)), told)
        self.assertEqual(plain((told[0], told[0])), told[0])
        self.assertEqual(plain((told[0], turned(told[1]))), told)

    def test_what_is_no_term(self):
        for told in no_terms():
            for call in (plain, is_plain):
                with self.assertRaises(InvalidTerm):
                    call(told)
            for call in (equal_everywhere, parting):
                for pair in ((told, "x"), ("x", told), (told, told)):
                    with self.assertRaises(InvalidTerm):
                        call(*pair)
            for pair in ((told, "x"), ("x", told)):
                with self.assertRaises(InvalidTerm):
                    check_parting(*pair, Parting(0, [], {}, (0, 0)))


class Equal(unittest.TestCase):
    def test_equal_everywhere(self):
        for one, other in ((("x", "x"), "x"), (("x", "y"), ["y", "x"]), (("x", ("x", "y")), "y"), ("x", "x"),
                           ((("a", "b"), ("c", "d")), (["d", "c"], ("b", "a"))), (left(200), "x")):
            self.assertIs(unchanged(self, equal_everywhere, one, other), True)
            self.assertIs(equal_everywhere(other, one), True)
            self.assertIsNone(unchanged(self, parting, one, other))

    def test_unlike(self):
        for one, other in combinations(UNLIKE, 2):
            self.assertIs(equal_everywhere(one, other), False)
            self.assertIsNotNone(parting(other, one))
        medial = ((("a", "b"), ("c", "d")), (("a", "c"), ("b", "d")))
        self.assertIs(equal_everywhere(*medial), False)

    def test_by_rules(self):
        terms = terms_with(("x", "y"), 4) + terms_with(("x", "y", "z"), 3)
        forms = [plain_by_rules(term) for term in terms]
        for one, first in zip(terms, forms):
            for other, second in zip(terms, forms):
                self.assertIs(equal_everywhere(one, other), first == second)


def parting_by_rules(one, other):
    """The parting that point 49 tells."""
    forms = in_order({plain_by_rules(part) for part in parts_of(one) + parts_of(other)})
    threes = sorted(tuple(sorted((forms.index(form), forms.index(form[0]), forms.index(form[1]))))
                    for form in forms if not isinstance(form, str))
    names = {form: at for at, form in enumerate(forms) if isinstance(form, str)}
    return (len(forms), threes, names, (forms.index(plain_by_rules(one)), forms.index(plain_by_rules(other))))


def as_told(told):
    return (told.count, told.threes, told.names, told.ends)


class ToldPartings(unittest.TestCase):
    def test_by_rules(self):
        for one, other in combinations(UNLIKE + SOME[::7], 2):
            if plain_by_rules(one) == plain_by_rules(other):
                self.assertIsNone(parting(one, other))
                continue
            told = unchanged(self, parting, one, other)
            self.assertEqual(as_told(told), parting_by_rules(one, other))
            self.assertEqual(repr(as_told(parting(as_lists(one), other))), repr(as_told(told)))
            self.assertEqual(list(told.names), sorted(told.names))
            self.assertIsInstance(told, Parting)
            self.assertIs(check_parting(one, other, told), True)
            self.assertIs(check_parting(as_lists(one), other, told), True)

    def test_by_hand(self):
        self.assertEqual(as_told(parting("x", "y")), (2, [], {"x": 0, "y": 1}, (0, 1)))
        self.assertEqual(as_told(parting("y", ("z", "x"))), (4, [(0, 2, 3)], {"x": 0, "y": 1, "z": 2}, (1, 3)))
        self.assertEqual(as_told(parting(("x", ("x", "aa")), "x")), (3, [(0, 1, 2)], {"aa": 1, "x": 0}, (1, 0)))
        self.assertEqual(as_told(parting((("x", "y"), "z"), (("x", "z"), "y"))),
                         (7, [(0, 1, 3), (0, 2, 4), (1, 4, 5), (2, 3, 6)], {"x": 0, "y": 1, "z": 2}, (6, 5)))

    def test_names_of_plain_forms_that_are_left_out(self):
        # The name y stands in neither plain form, but it is the plain form of a part.
        self.assertEqual(as_told(parting(("y", "y"), "x")), (2, [], {"x": 0, "y": 1}, (1, 0)))
        self.assertEqual(as_told(parting(("y", ("y", "x")), "z")), (4, [(0, 1, 3)], {"x": 0, "y": 1, "z": 2}, (0, 2)))

    def test_great_terms(self):
        told = parting(deep(), left(200, "q"))
        self.assertEqual(told.count, 199 + 8)
        self.assertEqual(len(told.threes), 199)
        self.assertEqual(told.ends, (206, 7))
        self.assertIs(check_parting(deep(), left(200, "q"), told), True)
        self.assertIs(check_parting(deep(), left(200, "q"), changed(told, threes=told.threes[:-1])), False)

    def test_what_is_told_is_new(self):
        one, other = ("x", "y"), "x"
        told = parting(one, other)
        told.threes.append((5, 6, 7))
        told.names["z"] = 8
        self.assertEqual(as_told(parting(one, other)), (3, [(0, 1, 2)], {"x": 0, "y": 1}, (2, 0)))

    def test_attributes_are_kept_as_they_come(self):
        told = Parting(-1, "threes", None, (3, 3))
        self.assertEqual(as_told(told), (-1, "threes", None, (3, 3)))


def end_by_rules(term, threes, names):
    """The point to which a term comes by some threes, or None."""
    if isinstance(term, str):
        return names.get(term)
    one, other = [end_by_rules(side, threes, names) for side in term]
    if one is None or other is None or one == other:
        return one if one == other else None
    for three in threes:
        if one in three and other in three:
            return sum(three) - one - other
    return None


def is_right(one, other, told):
    """What point 48 says."""
    points = range(told.count)
    for three in told.threes:
        if len(set(three)) != 3 or any(point not in points for point in three):
            return False
    pairs = [tuple(sorted(pair)) for three in told.threes for pair in combinations(three, 2)]
    if len(set(pairs)) < len(pairs) or any(point not in points for point in told.names.values()):
        return False
    ends = (end_by_rules(one, told.threes, told.names), end_by_rules(other, told.threes, told.names))
    return None not in ends and ends[0] != ends[1] and ends == told.ends


def changed(told, **parts):
    known = {"count": told.count, "threes": list(told.threes), "names": dict(told.names), "ends": told.ends}
    known.update(parts)
    return Parting(known["count"], known["threes"], known["names"], known["ends"])


PAIRS = [(one, other) for one, other in combinations(UNLIKE, 2)] + [
    (("x", ("x", "y")), "z"), (("x", "x"), "y"), (((("a", "b"), "c"), "d"), ((("a", "b"), "d"), "c")),
    (("a", ("b", ("c", "a"))), (("a", "b"), ("b", "c")))]


class CheckParting(unittest.TestCase):
    def test_other_partings_may_be_right(self):
        one, other = ("x", ["y", "x"]), ("y", "x")
        for told in (
            Parting(3, [(0, 1, 2)], {"x": 0, "y": 1}, (1, 2)),
            Parting(3, [[2, 0, 1]], {"x": 2, "y": 0}, (0, 1)),
            Parting(3, ((1, 2, 0),), {"x": 1, "y": 0}, [0, 2]),
            Parting(9, [(8, 3, 5), (8, 0, 1), (0, 3, 2)], {"y": 5, "x": 8, "z": 8, "w9": 0}, (5, 3)),
            Parting(10 ** 30, [(0, 5, 10 ** 30 - 1)], {"x": 10 ** 30 - 1, "y": 0}, (0, 5)),
        ):
            self.assertIs(unchanged(self, lambda *terms: check_parting(*terms, told), one, other), True)
        # Names may have the same point.
        self.assertIs(check_parting(("x", "y"), "z", Parting(2, [], {"x": 1, "y": 1, "z": 0}, (1, 0))), True)

    def test_a_parting_stays_as_it_is(self):
        told = parting(("x", "y"), ["x", ["z", "y"]])
        before = repr(as_told(told))
        check_parting(("x", "y"), ["x", ["z", "y"]], told)
        self.assertEqual(repr(as_told(told)), before)

    def refuses(self, one, other, told):
        self.assertIs(is_right(one, other, told), False, as_told(told))
        self.assertIs(check_parting(one, other, told), False, (one, other, as_told(told)))

    def test_threes(self):
        for one, other in PAIRS:
            told = parting(one, other)
            many = told.count
            for at, three in enumerate(told.threes):
                rest = told.threes[:at] + told.threes[at + 1:]
                self.refuses(one, other, changed(told, threes=rest))
                self.refuses(one, other, changed(told, threes=told.threes + [three]))
                self.refuses(one, other, changed(told, threes=told.threes + [three[::-1]]))
                a, b, c = three
                for wrong in ((a, b), (a, a, c), (a, b, b), three + (many,), (), (a, b, many), (-1, b, c), (a, b, c - many)):
                    self.refuses(one, other, changed(told, threes=rest + [wrong]))
                # Two points of it in one more three.
                self.refuses(one, other, changed(told, count=many + 1, threes=told.threes + [(a, b, many)]))
                self.refuses(one, other, changed(told, count=many + 1, threes=[(c, many, a)] + told.threes))
                for point in range(many + 2):
                    for three_changed in ((point, b, c), (a, point, c), (a, b, point)):
                        other_told = changed(told, count=many + 1, threes=rest + [three_changed])
                        self.assertIs(check_parting(one, other, other_told), is_right(one, other, other_told))

    def test_threes_that_the_terms_do_not_need(self):
        one, other = ("x", "y"), "x"
        told = parting(one, other)
        self.assertIs(check_parting(one, other, changed(told, count=6, threes=[(3, 4, 5), (0, 1, 2), (0, 3, 6 - 1)])), False)
        self.assertIs(check_parting(one, other, changed(told, count=6, threes=[(3, 4, 5), (0, 1, 2)])), True)
        self.assertIs(check_parting(one, other, changed(told, count=5, threes=[(3, 4, 0), (0, 1, 2)])), True)
        self.assertIs(check_parting(one, other, changed(told, count=5, threes=[(3, 4, 5), (0, 1, 2)])), False)

    def test_counts(self):
        for one, other in PAIRS:
            told = parting(one, other)
            self.assertIs(check_parting(one, other, changed(told, count=told.count + 1)), True)
            for count in (told.count - 1, 1, 0, -1):
                self.refuses(one, other, changed(told, count=count))

    def test_names(self):
        for one, other in PAIRS:
            told = parting(one, other)
            for name, point in told.names.items():
                less = {key: told.names[key] for key in told.names if key != name}
                if name in leaves_of(one) + leaves_of(other):
                    self.refuses(one, other, changed(told, names=less))
                for wrong in (-1, told.count, 10 ** 30):
                    self.refuses(one, other, changed(told, names={**told.names, name: wrong}))
                for new in range(told.count):
                    other_told = changed(told, names={**told.names, name: new})
                    self.assertIs(check_parting(one, other, other_told), is_right(one, other, other_told))
            for point in range(told.count):
                self.assertIs(check_parting(one, other, changed(told, names={**told.names, "zz": point})), True)
            for wrong in (-1, told.count):
                self.refuses(one, other, changed(told, names={**told.names, "zz": wrong}))

    def test_a_changed_point_is_refused(self):
        told = parting(("x", "y"), "x")
        for names in ({"x": 1, "y": 0}, {"x": 0, "y": 2}, {"x": 0, "y": 0}, {"x": 2, "y": 1}, {}):
            self.refuses(("x", "y"), "x", changed(told, names=names))

    def test_keys_that_are_no_names(self):
        told = parting(("x", "y"), "x")
        for key in NO_NAMES:
            self.assertIs(check_parting(("x", "y"), "x", changed(told, names={**told.names, key: 0})), False)

    def test_other_values(self):
        told = parting(("x", "y"), "x")
        for wrong in ({"count": None}, {"count": "3"}, {"threes": None}, {"threes": [7]}, {"threes": [(0, 1, "2")]},
                      {"names": {"x": None, "y": 1}}, {"names": {"x": "0", "y": 1}}, {"names": {"x": 0, "y": 1, 7: 0}}):
            self.assertIs(check_parting(("x", "y"), "x", changed(told, **wrong)), False)

    def test_ends(self):
        for one, other in PAIRS:
            told = parting(one, other)
            first, second = told.ends
            for ends in ((second, first), (first, first), (second, second), (first, second, first), (first,), (),
                         (first, told.count), (-1, second), (first - told.count, second)):
                self.refuses(one, other, changed(told, ends=ends))
            for a in range(told.count):
                for b in range(told.count):
                    self.assertIs(check_parting(one, other, changed(told, ends=(a, b))), (a, b) == told.ends)
            self.refuses(other, one, told)

    def test_terms_that_come_to_the_same_point(self):
        told = Parting(3, [(0, 1, 2)], {"x": 0, "y": 1}, (2, 2))
        self.refuses(("x", "y"), ("y", "x"), told)
        self.refuses("x", ("y", ("x", "y")), Parting(3, [(0, 1, 2)], {"x": 0, "y": 1}, (0, 0)))

    def test_pairs_that_come_to_no_point(self):
        # The sides come to no point, but nothing would follow from it if they counted as equal.
        for one, other in (((("x", "y"), ("x", "y")), "x"), (("x", ("x", "y")), "x"), ((("x", "y"), "x"), "z"),
                           ((("w", "w"), ("x", "y")), "x"), ("x", ("w", ("x", "y")))):
            for ends in ((0, 1), (1, 0), (0, 2), (2, 0), (1, 2), (None, 0), (None, None)):
                told = Parting(4, [(0, 2, 3)], {"x": 0, "y": 1, "z": 2}, ends)
                self.assertIs(check_parting(one, other, told), False)

    def test_of_other_terms(self):
        for one, other in PAIRS:
            for first, second in PAIRS[::5]:
                told = parting(first, second)
                self.assertIs(check_parting(one, other, told), is_right(one, other, told))


def count_by_rules(names, leaves):
    """The numbers of point 50."""
    kept = {}

    def pairs(i, j):
        if (i, j) not in kept:
            if i == j:
                less = forms(i)
            else:
                less = pairs(i, j - i) if i < j else pairs(j, i - j)
            kept[i, j] = forms(i) * forms(j) - less
        return kept[i, j]

    def forms(n):
        if n not in kept:
            kept[n] = names if n == 1 else sum(pairs(i, n - i) for i in range(1, n)) // 2
        return kept[n]

    return forms(leaves)


class Counts(unittest.TestCase):
    def test_against_lists(self):
        for names, most in ((0, 5), (1, 6), (2, 6), (3, 5), (4, 4), (6, 3)):
            for leaves in range(1, most + 1):
                forms = {term for term in terms_with(LETTERS[:names], leaves) if not once_changed(term)}
                self.assertEqual(plain_count(names, leaves), len(forms), (names, leaves))
                told = plain_forms(list(LETTERS[:names]), leaves)
                self.assertEqual(told, in_order(forms))

    def test_by_rules(self):
        for names in (0, 1, 2, 3, 5, 25, 26):
            for leaves in (1, 2, 3, 4, 7, 10, 31, 59, 60):
                self.assertEqual(plain_count(names, leaves), count_by_rules(names, leaves))

    def test_one_and_two_names(self):
        self.assertEqual([plain_count(1, leaves) for leaves in range(1, 61)], [1] + [0] * 59)
        self.assertEqual([plain_count(2, leaves) for leaves in range(1, 61)], [2, 1] + [0] * 58)
        self.assertEqual([plain_count(0, leaves) for leaves in range(1, 61)], [0] * 60)
        self.assertEqual(plain_count(26, 2), 325)

    def test_bounds(self):
        for names, leaves in ((-1, 5), (27, 5), (3, 0), (3, 61), (3, -1), (0, 0), (26, 61), (27, 61), (10 ** 30, 1)):
            raised(self, InvalidQuestion, plain_count, names, leaves)
        for names, leaves in ((0, 1), (0, 60), (26, 1), (26, 60)):
            self.assertGreaterEqual(plain_count(names, leaves), 0)


class Forms(unittest.TestCase):
    def test_order(self):
        self.assertEqual(plain_forms(["b", "aa", "c"], 1), ["b", "c", "aa"])
        self.assertEqual(plain_forms(["c", "b", "a"], 2), [("a", "b"), ("a", "c"), ("b", "c")])
        self.assertEqual(plain_forms(["zz", "y", "x"], 2), [("x", "y"), ("x", "zz"), ("y", "zz")])
        self.assertEqual(plain_forms(["z", "x", "y"], 3), [("x", ("y", "z")), ("y", ("x", "z")), ("z", ("x", "y"))])
        self.assertEqual(plain_forms(["zzzzzzzz", "x", "y"], 3),
                         [(("x", "y"), "zzzzzzzz"), ("x", ("y", "zzzzzzzz")), ("y", ("x", "zzzzzzzz"))])

    def test_names_of_many_lengths(self):
        names = ["zzzzz", "b", "a10", "abcdefghijkl", "a9"]
        for leaves in (1, 2, 3, 4):
            forms = {term for term in terms_with(names, leaves) if not once_changed(term)}
            told = unchanged(self, plain_forms, names, leaves)
            self.assertEqual(told, in_order(forms))
            self.assertEqual(repr(told), repr([as_tuples(term) for term in told]))

    def test_names_that_stand_twice(self):
        self.assertEqual(plain_forms(["y", "x", "y", "x"], 2), [("x", "y")])
        self.assertEqual(plain_forms(["x", "x", "x"], 1), ["x"])
        self.assertEqual(plain_forms(["x", "x", "x"], 2), [])
        self.assertEqual(len(plain_forms(list(LETTERS) * 3, 1)), 26)

    def test_no_names(self):
        for leaves in (1, 2, 60):
            self.assertEqual(plain_forms([], leaves), [])
            self.assertEqual(plain_forms([], leaves, limit=0), [])

    def test_many_leaves(self):
        self.assertEqual(plain_forms(["x"], 60), [])
        self.assertEqual(plain_forms(["x", "y"], 60, limit=0), [])

    def test_lists_are_new(self):
        names = ["x", "y"]
        plain_forms(names, 1).append("z")
        self.assertEqual(names, ["x", "y"])
        self.assertEqual(plain_forms(names, 1), ["x", "y"])

    def test_limits(self):
        for names, leaves in ((3, 4), (4, 3), (5, 4), (1, 1), (26, 2), (3, 7)):
            many = plain_count(names, leaves)
            told = list(LETTERS[:names])
            self.assertEqual(len(plain_forms(told, leaves, limit=many)), many)
            self.assertEqual(raised(self, TooMany, plain_forms, told, leaves, limit=many - 1).limit, many - 1)
        self.assertEqual(raised(self, TooMany, plain_forms, list(LETTERS), 60).limit, 2000)
        self.assertEqual(raised(self, TooMany, plain_forms, ["x", "y", "z"], 60, limit=10 ** 12).limit, 10 ** 12)
        self.assertEqual(len(plain_forms(list(LETTERS[:8]), 4)), 1554)
        self.assertEqual(raised(self, TooMany, plain_forms, list(LETTERS[:9]), 4).limit, 2000)

    def test_wrong_names(self):
        for name in NO_NAMES + (None, 0, ("x", "y"), ["x"], b"x"):
            for names in ([name], ["x", name], [name, "x", "y"], list(LETTERS) + [name]):
                raised(self, InvalidTerm, plain_forms, names, 2)
                raised(self, InvalidTerm, plain_forms, names, 0, limit=0)
                raised(self, InvalidTerm, plain_forms, names, 61)
        for name in NAMES:
            self.assertEqual(plain_forms([name], 1), [name])

    def test_numbers_out_of_their_bounds(self):
        for leaves in (0, -1, 61, 10 ** 30):
            raised(self, InvalidQuestion, plain_forms, ["x", "y", "z"], leaves, limit=0)
            raised(self, InvalidQuestion, plain_forms, [], leaves)
        raised(self, InvalidQuestion, plain_forms, list(LETTERS) + ["a1"], 1, limit=0)
        self.assertEqual(len(plain_forms(list(LETTERS[:25]) + ["a1", "a1"], 1)), 26)
