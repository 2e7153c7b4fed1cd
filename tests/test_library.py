import random
import unittest

from paironce.errors import (InvalidQuestion, InvalidSystem, NameInUse, NothingToRedo, NothingToUndo, PaironceError,
                             UnknownName, UnknownPoint)
from paironce.library import Library, decide
from paironce.subsystems import least_points, taken_out
from paironce.systems import checked
from helper import FANO, GREAT, NINE, NO_TREES, SMALL, points_in, raised, third_table, unchanged
from test_subsystems import closed_by_table, lists_of_points


def state(library):
    """All that a library tells about what is defined."""
    return ([(name, library.system(name)) for name in library.system_names()],
            [(name, library.question(name)) for name in library.question_names()])


def history(library):
    """What is defined, and what comes when everything is undone and redone again."""
    told = [state(library)]
    steps = 0
    while True:
        try:
            library.undo()
        except NothingToUndo:
            break
        steps += 1
        told.append(state(library))
    for _ in range(steps):
        library.redo()
    return told


def all_history(library):
    """The same, with what can be redone."""
    ahead = []
    while True:
        try:
            library.redo()
        except NothingToRedo:
            break
        ahead.append(state(library))
    for _ in ahead:
        library.undo()
    return history(library) + [None] + ahead


def refused(case, library, error, call, *told):
    """A change raises just this error and changes nothing."""
    before = all_history(library)
    caught = raised(case, error, call, *told)
    case.assertEqual(all_history(library), before)
    return caught


def small_library():
    library = Library()
    library.set_system("s", ("skolem", 7))
    library.set_system("b", ["bose", 9])
    library.double("d", "s")
    library.ask("q", "third", "s", [0, 1])
    library.ask("n", "size", "d", [])
    library.set_system("gone", ("bose", 3))
    library.undo()
    return library


class Decide(unittest.TestCase):
    def test_size(self):
        for tree in SMALL + GREAT:
            self.assertEqual(unchanged(self, decide, "size", tree, []), ("size", points_in(tree)))

    def test_third(self):
        for tree in SMALL:
            count = points_in(tree)
            for (a, b), c in list(third_table(tree).items())[::5]:
                self.assertEqual(unchanged(self, decide, "third", tree, [a, b]), ("third", c))
            for point in range(0, count, 4):
                self.assertEqual(decide("third", tree, [point, point]), ("refused",))
            for points, point in (([count, 0], count), ([0, count], count), ([-1, count], -1), ([count, -1], count),
                                  ([count, count], count), ([-2, -2], -2)):
                self.assertEqual(unchanged(self, decide, "third", tree, points), ("unknown", point))

    def test_closed(self):
        for tree in SMALL:
            count = points_in(tree)
            table = third_table(tree)
            for points in lists_of_points(count):
                if len(points) <= 6:
                    told = ("closed", len(closed_by_table(table, points)))
                    self.assertEqual(unchanged(self, decide, "closed", tree, points), told)
            for points, point in (([count], count), ([0, count, -1], count), ([0, 0, -1, count, 0, 0], -1)):
                self.assertEqual(decide("closed", tree, points), ("unknown", point))

    def test_too_many_points(self):
        for tree in (("skolem", 10 ** 30 - 3), ("bose", 2001)):
            self.assertEqual(decide("closed", tree, [0, 1, 2]), ("many", 2000))
        tree = ("product", ("affine", 6), ("bose", 9))
        self.assertEqual(decide("closed", tree, [0, 1, 3, 9, 27, 243]), ("closed", 243))
        self.assertEqual(decide("closed", tree, [0, 1 + 9, 3, 27, 81, 243]), ("closed", 243))
        self.assertEqual(decide("closed", ("affine", 60), [0, 1, 3, 9, 27, 81]), ("closed", 243))
        self.assertEqual(decide("closed", ("bose", 1995), [0, 1, 2]), ("closed", 1995))
        self.assertEqual(decide("closed", ("skolem", 1999), [0, 1, 2, 5]), ("closed", 1999))
        self.assertEqual(decide("closed", ("bose", 2001), [0, 1, 2, 2000]), ("many", 2000))
        self.assertEqual(decide("closed", ("bose", 2001), [0, 1, 2, 2001]), ("unknown", 2001))

    def test_least(self):
        for tree in SMALL + [("binary", 5), ("bose", 57)]:
            if points_in(tree) <= 60:
                self.assertEqual(unchanged(self, decide, "least", tree, []), ("least",) + tuple(least_points(tree)))
        self.assertEqual(decide("least", ("affine", 2), []), ("least", 0, 1, 3))
        self.assertEqual(decide("least", ("listed", 1, []), []), ("least", 0))
        for tree in GREAT + [("skolem", 61), ("bose", 63)]:
            self.assertEqual(decide("least", tree, []), ("refused",))

    def test_errors(self):
        for tree in NO_TREES:
            for kind, points in (("size", []), ("size", [0]), ("box", []), ("third", [-1, -1])):
                raised(self, InvalidSystem, decide, kind, tree, points)
        for kind in ("", "box", "Size", "thirds", "size ", "close"):
            for points in ([], [0], [0, 1]):
                raised(self, InvalidQuestion, decide, kind, ("bose", 9), points)
        for kind, fewest, most in (("size", 0, 0), ("least", 0, 0), ("third", 2, 2), ("closed", 0, 6)):
            for many in range(10):
                if fewest <= many <= most:
                    decide(kind, ("bose", 9), list(range(many)))
                else:
                    raised(self, InvalidQuestion, decide, kind, ("bose", 9), list(range(many)))
                    raised(self, InvalidQuestion, decide, kind, ("bose", 9), [99] * many)


class Changes(unittest.TestCase):
    def test_an_empty_library(self):
        library = Library()
        self.assertEqual((library.system_names(), library.question_names(), library.answers()), ([], [], []))
        self.assertEqual((library.decided, library.kept), (0, 0))

    def test_set_system(self):
        library = Library()
        for at, tree in enumerate(SMALL + GREAT):
            name = "s%d" % at
            self.assertIsNone(unchanged(self, library.set_system, name, tree))
            self.assertEqual(repr(library.system(name)), repr(checked(tree)))
            self.assertIsNone(library.set_system("s", tree))
            self.assertEqual(library.system("s"), checked(tree))
        self.assertEqual(library.system_names(), sorted(["s"] + ["s%d" % at for at in range(len(SMALL + GREAT))]))

    def test_set_system_errors(self):
        library = small_library()
        for tree in NO_TREES:
            refused(self, library, InvalidSystem, library.set_system, "s", tree)
            refused(self, library, InvalidSystem, library.set_system, "new", tree)

    def test_double_and_product(self):
        library = small_library()
        self.assertIsNone(library.double("x", "b"))
        self.assertEqual(library.system("x"), ("double", ("bose", 9)))
        self.assertIsNone(library.double("x", "x"))
        self.assertEqual(library.system("x"), ("double", ("double", ("bose", 9))))
        self.assertIsNone(library.product("p", "b", "s"))
        self.assertEqual(library.system("p"), ("product", ("bose", 9), ("skolem", 7)))
        library.product("p", "s", "p")
        self.assertEqual(library.system("p"), ("product", ("skolem", 7), ("product", ("bose", 9), ("skolem", 7))))
        library.product("s", "s", "s")
        self.assertEqual(library.system("s"), ("product", ("skolem", 7), ("skolem", 7)))
        self.assertEqual(library.system("d"), ("double", ("skolem", 7)))

    def test_double_and_product_errors(self):
        library = small_library()
        # A name of a question is none of a system.
        for name in ("none", "q", "n", "gone", ""):
            self.assertEqual(refused(self, library, UnknownName, library.double, "x", name).name, name)
            self.assertEqual(refused(self, library, UnknownName, library.product, "x", name, "s").name, name)
            self.assertEqual(refused(self, library, UnknownName, library.product, "x", "s", name).name, name)
            self.assertEqual(refused(self, library, UnknownName, library.product, "s", name, "zz").name, name)
        self.assertEqual(refused(self, library, UnknownName, library.double, "none", "none").name, "none")

    def test_too_many_parts_or_points(self):
        library = small_library()
        library.set_system("deep", ("bose", 3))
        for _ in range(11):
            library.double("deep", "deep")
        refused(self, library, InvalidSystem, library.double, "deep", "deep")
        refused(self, library, InvalidSystem, library.product, "x", "deep", "s")
        library.set_system("great", ("skolem", 5 * 10 ** 29 - 1))
        library.double("greater", "great")
        refused(self, library, InvalidSystem, library.double, "x", "greater")
        refused(self, library, InvalidSystem, library.product, "x", "great", "s")
        refused(self, library, InvalidSystem, library.product, "great", "s", "great")
        self.assertEqual(refused(self, library, UnknownName, library.product, "x", "greater", "y").name, "y")

    def test_take_out(self):
        library = small_library()
        for points in ([0, 1, 3], [2], [5, 0, 5]):
            self.assertIsNone(unchanged(self, library.take_out, "t", "d", points))
            self.assertEqual(library.system("t"), taken_out(("double", ("skolem", 7)), points))
        library.take_out("d", "d", [14, 0])
        self.assertEqual(library.system("d"), ("listed", 3, ((0, 1, 2),)))

    def test_take_out_errors(self):
        library = small_library()
        library.set_system("great", ("skolem", 10 ** 30 - 3))
        for name in ("none", "q", "gone"):
            self.assertEqual(refused(self, library, UnknownName, library.take_out, "s", name, [-1]).name, name)
        for points, point in (([7], 7), ([0, -1, 7], -1), ([0, 8, -1], 8)):
            self.assertEqual(refused(self, library, UnknownPoint, library.take_out, "x", "s", points).point, point)
        refused(self, library, InvalidQuestion, library.take_out, "x", "s", [])
        refused(self, library, InvalidQuestion, library.take_out, "s", "great", [0, 1, 2])

    def test_remove_system(self):
        library = small_library()
        self.assertIsNone(library.remove_system("b"))
        self.assertEqual(library.system_names(), ["d", "s"])
        self.assertEqual(raised(self, UnknownName, library.system, "b").name, "b")
        for name in ("b", "q", "none", "gone"):
            self.assertEqual(refused(self, library, UnknownName, library.remove_system, name).name, name)
        self.assertEqual(refused(self, library, NameInUse, library.remove_system, "s").name, "s")
        self.assertEqual(refused(self, library, NameInUse, library.remove_system, "d").name, "d")
        library.drop("n")
        library.remove_system("d")
        library.ask("q", "size", "s", [])
        self.assertEqual(refused(self, library, NameInUse, library.remove_system, "s").name, "s")
        library.set_system("t", ("bose", 3))
        library.ask("q", "size", "t", [])
        library.remove_system("s")
        self.assertEqual(library.system_names(), ["t"])

    def test_a_double_does_not_need_its_part(self):
        library = small_library()
        library.drop("q")
        library.remove_system("s")
        self.assertEqual(library.system("d"), ("double", ("skolem", 7)))
        library.set_system("s", ("bose", 3))
        self.assertEqual(library.answer("n"), ("size", 15))

    def test_ask(self):
        library = small_library()
        for kind, points in (("size", []), ("least", []), ("third", [3, 4]), ("third", [9, -1]), ("third", [2, 2]),
                             ("closed", []), ("closed", [0]), ("closed", [99] * 6), ("closed", [1, 2, 3, 4, 5, 6])):
            self.assertIsNone(unchanged(self, library.ask, "x", kind, "b", points))
            self.assertEqual(library.question("x"), (kind, "b", tuple(points)))
        self.assertEqual(library.question_names(), ["n", "q", "x"])
        library.ask("q", "least", "d", [])
        self.assertEqual(library.question("q"), ("least", "d", ()))

    def test_ask_errors(self):
        library = small_library()
        for name in ("none", "q", "gone"):
            for kind, points in (("size", []), ("box", [1] * 9), ("third", [])):
                self.assertEqual(refused(self, library, UnknownName, library.ask, "q", kind, name, points).name, name)
        for kind in ("", "box", "Third", "sizes"):
            for points in ([], [0, 1]):
                refused(self, library, InvalidQuestion, library.ask, "x", kind, "s", points)
        for kind, fewest, most in (("size", 0, 0), ("least", 0, 0), ("third", 2, 2), ("closed", 0, 6)):
            for many in range(10):
                if not fewest <= many <= most:
                    for point in (0, 99):
                        refused(self, library, InvalidQuestion, library.ask, "q", kind, "s", [point] * many)
                else:
                    library.ask("y", kind, "s", [99] * many)

    def test_drop(self):
        library = small_library()
        for name in ("s", "none", "gone"):
            self.assertEqual(refused(self, library, UnknownName, library.drop, name).name, name)
        self.assertIsNone(library.drop("q"))
        self.assertEqual(library.question_names(), ["n"])
        self.assertEqual(refused(self, library, UnknownName, library.drop, "q").name, "q")

    def test_one_name_for_a_system_and_a_question(self):
        library = Library()
        library.set_system("x", ("bose", 9))
        library.ask("x", "size", "x", [])
        self.assertEqual(library.answer("x"), ("size", 9))
        self.assertEqual(library.system("x"), ("bose", 9))
        self.assertEqual(library.question("x"), ("size", "x", ()))
        library.drop("x")
        self.assertEqual((library.system_names(), library.question_names()), (["x"], []))
        library.undo()
        library.set_system("x", ("bose", 3))
        self.assertEqual(library.answer("x"), ("size", 3))

    def test_names_of_another_form(self):
        library = Library()
        for name in ("", "X", "9", "a b", "averylongname"):
            library.set_system(name, ("bose", 3))
            library.ask(name, "size", name, [])
            self.assertEqual(library.answer(name), ("size", 3))

    def test_unknown_names(self):
        library = small_library()
        for call in (library.system, library.question, library.answer):
            self.assertEqual(raised(self, UnknownName, call, "none").name, "none")
        self.assertEqual(raised(self, UnknownName, library.system, "q").name, "q")
        self.assertEqual(raised(self, UnknownName, library.question, "s").name, "s")
        self.assertEqual(raised(self, UnknownName, library.answer, "s").name, "s")


class Copies(unittest.TestCase):
    def test_what_was_passed_is_changed_later(self):
        library = Library()
        threes = [list(three) for three in FANO]
        tree = ["double", ["listed", 7, threes]]
        library.set_system("s", tree)
        before = repr(library.system("s"))
        threes[0][0] = 99
        threes.append([1, 2, 3])
        tree[1] = ("bose", 3)
        self.assertEqual(repr(library.system("s")), before)
        points = [0, 1]
        library.ask("q", "third", "s", points)
        points[0] = 5
        points.append(3)
        self.assertEqual(library.question("q"), ("third", "s", (0, 1)))
        taken = [0, 1]
        library.take_out("t", "s", taken)
        taken.append(5)
        self.assertEqual(library.system("t"), ("listed", 3, ((0, 1, 2),)))

    def test_changes_that_are_changed_later(self):
        library = Library()
        tree = ["bose", 9]
        points = [0, 4]
        changes = [("set_system", "s", tree), ("ask", "q", "third", "s", points)]
        library.change_all(changes)
        changes.clear()
        tree[1] = 15
        points[1] = 5
        self.assertEqual(state(library), ([("s", ("bose", 9))], [("q", ("third", "s", (0, 4)))]))
        library.undo()
        library.undo()
        library.redo()
        library.redo()
        self.assertEqual(library.answers(), [("q", ("third", 2))])

    def test_what_is_returned_is_changed_later(self):
        library = small_library()
        library.system_names().append("z")
        library.question_names().clear()
        library.answers().clear()
        self.assertEqual(library.system_names(), ["b", "d", "s"])
        self.assertEqual(library.answers(), [("n", ("size", 15)), ("q", ("third", 3))])
        self.assertEqual(library.system("d"), ("double", ("skolem", 7)))


class UndoAndRedo(unittest.TestCase):
    def test_nothing(self):
        library = Library()
        for _ in range(2):
            raised(self, NothingToUndo, library.undo)
            raised(self, NothingToRedo, library.redo)
            self.assertEqual(state(library), ([], []))
        library.set_system("s", ("bose", 3))
        raised(self, NothingToRedo, library.redo)
        self.assertIsNone(library.undo())
        raised(self, NothingToUndo, library.undo)
        self.assertIsNone(library.redo())
        raised(self, NothingToRedo, library.redo)
        self.assertEqual(library.system_names(), ["s"])

    def test_each_change(self):
        changes = [("set_system", "x", ("bose", 3)), ("set_system", "s", ("bose", 3)), ("double", "x", "s"), ("double", "s", "s"),
                   ("product", "x", "s", "b"), ("product", "b", "s", "b"), ("take_out", "x", "d", [0, 1]),
                   ("take_out", "d", "d", [0]), ("remove_system", "b"), ("ask", "x", "size", "b", []),
                   ("ask", "q", "closed", "b", [0, 1]), ("drop", "q"), ("drop", "n")]
        for word, *told in changes:
            library = small_library()
            before = state(library)
            self.assertIsNone(getattr(library, word)(*told))
            after = state(library)
            self.assertNotEqual(after, before)
            raised(self, NothingToRedo, library.redo)
            for _ in range(3):
                library.undo()
                self.assertEqual(state(library), before)
                library.redo()
                self.assertEqual(state(library), after)

    def test_a_change_that_changes_nothing_to_be_seen_counts(self):
        library = small_library()
        before = state(library)
        library.set_system("s", ("skolem", 7))
        library.ask("q", "third", "s", [0, 1])
        for _ in range(2):
            library.undo()
            self.assertEqual(state(library), before)
        library.undo()
        self.assertEqual(library.question_names(), ["q"])

    def test_a_change_makes_redo_impossible(self):
        library = small_library()
        library.undo()
        library.undo()
        library.set_system("b", ("bose", 3))
        raised(self, NothingToRedo, library.redo)
        library.undo()
        library.redo()
        self.assertEqual(library.system("b"), ("bose", 3))
        self.assertEqual(library.question_names(), [])

    def test_an_error_leaves_redo_possible(self):
        library = small_library()
        after = state(library)
        library.undo()
        raised(self, InvalidSystem, library.set_system, "s", ("box", 3))
        raised(self, UnknownName, library.drop, "n")
        library.redo()
        self.assertEqual(state(library), after)


class ChangeAll(unittest.TestCase):
    GOOD = [("set_system", "x", ["bose", 3]), ("double", "y", "x"), ("product", "z", "x", "s"), ("ask", "a", "size", "z", []),
            ("take_out", "s", "z", [0, 5]), ("drop", "n"), ("remove_system", "d"), ("ask", "q", "least", "s", [])]
    BAD = [(("set_system", "x", ("box", 1)), InvalidSystem), (("double", "x", "none"), UnknownName),
           (("product", "x", "s", "none"), UnknownName), (("take_out", "x", "s", [999]), UnknownPoint),
           (("take_out", "x", "s", []), InvalidQuestion), (("remove_system", "s"), NameInUse),
           (("remove_system", "none"), UnknownName), (("ask", "q", "box", "s", []), InvalidQuestion),
           (("ask", "q", "size", "none", []), UnknownName), (("drop", "none"), UnknownName)]

    def test_no_changes(self):
        library = small_library()
        before = all_history(library)
        for changes in ([], ()):
            self.assertIsNone(library.change_all(changes))
            self.assertEqual(all_history(library), before)
        library.redo()
        self.assertEqual(library.system("gone"), ("bose", 3))

    def test_several(self):
        for many in range(1, len(self.GOOD) + 1):
            library = small_library()
            other = small_library()
            self.assertIsNone(unchanged(self, library.change_all, self.GOOD[:many]))
            for word, *told in self.GOOD[:many]:
                getattr(other, word)(*told)
            self.assertEqual(all_history(library), all_history(other))
            for _ in range(many):
                library.undo()
            self.assertEqual(state(library), state(small_library()))

    def test_errors(self):
        for bad, error in self.BAD:
            for at in (0, 1, 4, 5, len(self.GOOD)):
                changes = self.GOOD[:at] + [bad] + self.GOOD[at:]
                library = small_library()
                refused(self, library, error, library.change_all, changes)
                library.redo()
                self.assertEqual(library.system("gone"), ("bose", 3))

    def test_attributes_of_errors(self):
        library = small_library()
        changes = [("set_system", "t", ("bose", 3)), ("remove_system", "d")]
        self.assertEqual(refused(self, library, NameInUse, library.change_all, changes).name, "d")
        changes = [("set_system", "t", ("bose", 3)), ("take_out", "t", "t", [1, 5, 4])]
        self.assertEqual(refused(self, library, UnknownPoint, library.change_all, changes).point, 5)
        changes = [("drop", "q"), ("drop", "n"), ("drop", "q")]
        self.assertEqual(refused(self, library, UnknownName, library.change_all, changes).name, "q")

    def test_changes_in_a_row(self):
        library = Library()
        library.change_all([("set_system", "s", ("bose", 3)), ("set_system", "s", ("bose", 9))])
        library.undo()
        self.assertEqual(library.system("s"), ("bose", 3))
        refused(self, library, InvalidSystem, library.change_all, [("double", "s", "s"), ("set_system", "s", ())])
        library.redo()
        self.assertEqual(library.system("s"), ("bose", 9))
        library.undo()
        library.change_all([("double", "s", "s")])
        raised(self, NothingToRedo, library.redo)


class Answers(unittest.TestCase):
    def test_each_kind(self):
        library = Library()
        library.set_system("d", ("double", ("skolem", 7)))
        library.set_system("g", ("skolem", 10 ** 30 - 3))
        for name, kind, one, points, told in (
            ("a", "size", "d", [], ("size", 15)), ("b", "third", "d", [0, 14], ("third", 7)), ("c", "third", "d", [3, 3], ("refused",)),
            ("e", "third", "d", [15, -1], ("unknown", 15)), ("f", "closed", "d", [0, 1, 3], ("closed", 3)),
            ("g", "closed", "d", [0, -1, 15], ("unknown", -1)), ("h", "closed", "g", [0, 1, 2], ("many", 2000)),
            ("i", "least", "d", [], ("least",) + tuple(least_points(("double", ("skolem", 7))))), ("j", "least", "g", [], ("refused",)),
            ("k", "closed", "g", [], ("closed", 0)), ("l", "closed", "g", [10 ** 30 - 4], ("closed", 1)),
            ("m", "size", "g", [], ("size", 10 ** 30 - 3)),
        ):
            library.ask(name, kind, one, points)
            self.assertEqual(library.answer(name), told)
            self.assertEqual(decide(kind, library.system(one), points), told)
        told = library.answers()
        self.assertEqual([name for name, _ in told], list("abcefghijklm"))
        self.assertEqual(told, [(name, library.answer(name)) for name in library.question_names()])

    def test_a_system_that_is_set_anew(self):
        library = small_library()
        self.assertEqual(library.answers(), [("n", ("size", 15)), ("q", ("third", 3))])
        library.set_system("s", ("affine", 2))
        library.set_system("d", ("bose", 21))
        self.assertEqual(library.answers(), [("n", ("size", 21)), ("q", ("third", 2))])
        library.undo()
        self.assertEqual(library.answers(), [("n", ("size", 15)), ("q", ("third", 2))])
        library.undo()
        self.assertEqual(library.answers(), [("n", ("size", 15)), ("q", ("third", 3))])
        library.redo()
        self.assertEqual(library.answers(), [("n", ("size", 15)), ("q", ("third", 2))])
        library.set_system("s", ("listed", 1, ()))
        self.assertEqual(library.answer("q"), ("unknown", 1))

    def counts(self, library, decided, kept):
        self.assertEqual((library.decided, library.kept), (decided, kept))

    def test_decided_and_kept(self):
        library = small_library()
        self.counts(library, 0, 0)
        library.answer("q")
        self.counts(library, 1, 0)
        library.answer("q")
        self.counts(library, 1, 1)
        library.answers()
        self.counts(library, 2, 2)
        # The same kind, tree and points under other names.
        library.set_system("other", ["skolem", 7])
        library.ask("z", "third", "other", [0, 1])
        self.assertEqual(library.answer("z"), ("third", 3))
        self.counts(library, 2, 3)
        library.ask("z", "third", "other", [1, 0])
        library.answer("z")
        self.counts(library, 3, 3)
        library.ask("z", "closed", "other", [0, 1])
        library.answer("z")
        self.counts(library, 4, 3)

    def test_kept_behind_changes(self):
        library = small_library()
        library.answers()
        self.counts(library, 2, 0)
        library.undo()
        library.redo()
        library.answers()
        self.counts(library, 2, 2)
        library.set_system("s", ("bose", 9))
        library.answers()
        self.counts(library, 3, 3)
        library.set_system("s", ["skolem", 7])
        library.answers()
        self.counts(library, 3, 5)
        library.undo()
        library.undo()
        library.answers()
        self.counts(library, 3, 7)
        library.drop("q")
        library.ask("q", "third", "s", [0, 1])
        library.answer("q")
        self.counts(library, 3, 8)
        raised(self, InvalidSystem, library.change_all, [("drop", "q"), ("set_system", "s", ())])
        self.counts(library, 3, 8)
        library.double("e", "s")
        library.ask("m", "size", "e", [])
        library.answer("m")
        self.counts(library, 3, 9)

    def test_answers_that_are_alike(self):
        library = Library()
        library.set_system("s", ("bose", 9))
        library.set_system("t", ("bose", 9))
        for at, one in enumerate("sttst"):
            library.ask("q%d" % at, "closed", one, [0, 1, 2])
        library.ask("r", "least", "s", [])
        self.assertEqual(len(set(answer for _, answer in library.answers())), 2)
        self.counts(library, 2, 4)

    def test_listed_systems(self):
        library = Library()
        library.set_system("s", ("listed", 7, FANO))
        library.set_system("t", ("listed", 7, FANO[::-1]))
        library.set_system("u", ["listed", 7, [sorted(three)[::-1] for three in FANO]])
        for name in "stu":
            library.ask(name, "size", name, [])
        library.answer("s")
        self.counts(library, 1, 0)
        library.answer("t")
        self.counts(library, 2, 0)
        library.answer("u")
        self.counts(library, 2, 1)
        library.set_system("s", ("double", ("listed", 9, NINE)))
        library.set_system("t", ("double", ("listed", 9, NINE[1:] + NINE[:1])))
        library.answers()
        self.counts(library, 4, 2)

    def test_systems_of_other_trees(self):
        library = Library()
        for name, tree in (("a", ("bose", 3)), ("b", ("affine", 1)), ("c", ("binary", 2)), ("d", ("listed", 3, [(0, 1, 2)]))):
            library.set_system(name, tree)
            library.ask(name, "size", name, [])
        self.assertEqual([told for _, told in library.answers()], [("size", 3)] * 4)
        self.counts(library, 4, 0)
        library.answers()
        self.counts(library, 4, 4)

    def test_products_and_doubles_with_the_same_parts(self):
        library = Library()
        trees = (("product", ("double", ("bose", 3)), ("affine", 2)), ("double", ("product", ("bose", 3), ("affine", 2))),
                 ("product", ("affine", 2), ("double", ("bose", 3))))
        for at, tree in enumerate(trees):
            library.set_system("s%d" % at, tree)
            library.ask("q%d" % at, "size", "s%d" % at, [])
        self.assertEqual([told for _, told in library.answers()], [("size", points_in(tree)) for tree in trees])
        self.counts(library, 3, 0)

    def test_unknown_names_count_for_nothing(self):
        library = small_library()
        for name in ("none", "s", "gone"):
            self.assertEqual(raised(self, UnknownName, library.answer, name).name, name)
        self.counts(library, 0, 0)

    def test_answers_that_refuse_are_kept(self):
        library = small_library()
        for at, (kind, points) in enumerate((("third", [1, 1]), ("third", [7, 0]), ("closed", [9]))):
            library.ask("x", kind, "s", points)
            first = library.answer("x")
            self.assertEqual(library.answer("x"), first)
            self.counts(library, at + 1, at + 1)

    def test_points_that_python_does_not_write(self):
        library = small_library()
        great = 7 << 20000
        library.ask("x", "third", "s", [0, great])
        self.assertEqual(library.answer("x")[1], great)

    def test_each_library_has_its_own(self):
        library, other = small_library(), small_library()
        library.answers()
        library.drop("q")
        self.counts(other, 0, 0)
        self.assertEqual(other.question_names(), ["n", "q"])


class Model:
    """A library that keeps what was defined behind each change."""

    def __init__(self):
        self.states = [({}, {})]
        self.at = 0

    def change(self, word, told):
        systems, questions = [dict(held) for held in self.states[self.at]]
        name = told[0]
        if word in ("double", "product", "take_out", "ask"):
            for one in told[2:3] if word == "ask" else told[1:2] if word == "take_out" else told[1:]:
                if one not in systems:
                    raise UnknownName(one)
        if word == "set_system":
            systems[name] = checked(told[1])
        elif word == "double":
            systems[name] = checked(("double", systems[told[1]]))
        elif word == "product":
            systems[name] = checked(("product", systems[told[1]], systems[told[2]]))
        elif word == "take_out":
            systems[name] = taken_out(systems[told[1]], told[2])
        elif word == "ask":
            decide(told[1], ("bose", 3), told[3])
            questions[name] = (told[1], told[2], tuple(told[3]))
        else:
            held = systems if word == "remove_system" else questions
            if name not in held:
                raise UnknownName(name)
            if word == "remove_system" and any(one == name for _, one, _ in questions.values()):
                raise NameInUse(name)
            del held[name]
        self.states = self.states[:self.at + 1] + [(systems, questions)]
        self.at += 1

    def run(self, word, told):
        if word == "undo":
            if self.at == 0:
                raise NothingToUndo("")
            self.at -= 1
        elif word == "redo":
            if self.at == len(self.states) - 1:
                raise NothingToRedo("")
            self.at += 1
        elif word == "change_all":
            before = (self.states, self.at)
            try:
                for change in told[0]:
                    self.change(change[0], change[1:])
            except PaironceError:
                self.states, self.at = before
                raise
        else:
            self.change(word, told)

    def state(self):
        systems, questions = self.states[self.at]
        return (sorted(systems.items()), sorted(questions.items()))


class LongWork(unittest.TestCase):
    def some_change(self, chance):
        name, one, other = [chance.choice(("a", "b", "c")) for _ in range(3)]
        word = chance.choice(("set_system", "set_system", "double", "product", "take_out", "remove_system", "ask", "ask", "drop"))
        points = [chance.randrange(-1, 12) for _ in range(chance.randrange(0, 4))]
        told = {"set_system": (name, chance.choice((("bose", 9), ["skolem", 7], ("affine", 2), ("bose", 7)))),
                "double": (name, one), "product": (name, one, other), "take_out": (name, one, points),
                "remove_system": (name,), "ask": (name, chance.choice(("size", "third", "closed", "box")), one, points),
                "drop": (name,)}
        return (word,) + told[word]

    def outcome(self, call, *told):
        try:
            call(*told)
        except PaironceError as error:
            return (type(error), vars(error))
        return None

    def test_against_a_model(self):
        chance = random.Random(11)
        for _ in range(40):
            library, model = Library(), Model()
            for _ in range(120):
                change = chance.choice([self.some_change(chance)] * 4 + [("undo",), ("undo",), ("redo",), None])
                if change is None:
                    change = ("change_all", [self.some_change(chance) for _ in range(chance.randrange(0, 4))])
                word, *told = change
                before = state(library)
                told_by_library = self.outcome(getattr(library, word), *told)
                self.assertEqual(told_by_library, self.outcome(model.run, word, told), change)
                self.assertEqual(state(library), model.state())
                if told_by_library is not None:
                    self.assertEqual(state(library), before)
