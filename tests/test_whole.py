"""What is promised of the whole program: its interface, its arguments and what it returns, and its errors."""

import copy
import importlib
import inspect
import os
import unittest

import paironce
from paironce.errors import PaironceError, TooMany, UnknownName, UnknownPoint
from paironce.library import Library
from paironce.plain import Parting, check_parting, parting
from paironce.session import Session
from helper import FANO, NINE, raised

INTERFACE = """
systems: is_system(tree) checked(tree) size(tree) three_count(tree) threes_at(tree) part_count(tree) arms_of(tree)
systems: check_point(tree, point) exists(count) built(count)
notation: format_system(tree) parse_system(text)
thirds: third(tree, a, b) product(tree, a, b) are_three(tree, points) through(tree, point, *, limit=2000)
threes: three_at(tree, number) number_of(tree, three) all_threes(tree, *, limit=2000)
partial: kept_threes(count, threes) first_fault(count, threes) is_whole(count, threes) open_pairs(count, threes)
partial: open_thirds(count, threes, a, b) odd_point(count, threes)
completing: complete(count, threes, *, limit=20000) completion_count(count, threes, *, limit=20000)
completing: is_completion(count, threes, whole) filled(count, threes) none_paper(count, threes, *, limit=20000)
completing: check_none(count, threes, paper)
terms: check_term(term) leaf_count(term) names_of(term) term_text(term) replaced(term, table) value(system, term, points)
plain: plain(term) is_plain(term) equal_everywhere(one, other) Parting(count, threes, names, ends) parting(one, other)
plain: check_parting(one, other, told) plain_count(names, leaves) plain_forms(names, leaves, *, limit=2000)
trying: first_difference(system, one, other, *, limit=10000) holds_in(system, one, other, *, limit=10000)
names: is_name(text)
subsystems: closed(tree, points, *, limit=2000) is_closed(tree, points) growth(tree, points, *, limit=2000)
subsystems: chain(tree, points, *, limit=2000) taken_out(tree, points) least_points(tree)
subsystems: subsystems(tree, many, *, limit=2000) subsystem_counts(tree, *, limit=2000) meet(tree, first, second)
library: decide(kind, tree, points) Library()
commands: split_words(line) is_command(words)
session: Session()
texts: threes_text(count, threes) parse_threes(text) paper_text(count, threes, *, limit=20000) parse_paper(text)
texts: check_text(count, threes, text)
renaming: listed(tree) same_threes(one, other) renamed(tree, names) turned_back(names)
renaming: one_after_another(first, second) rings(names)
likenesses: is_likeness(one, other, images) base_of(tree) likenesses(one, other, *, limit=2000) likeness(one, other)
likenesses: likeness_count(one, other, *, limit=2000) are_alike(one, other) places_of(tree, *, limit=2000)
counts: fours(tree) four_count(tree) rounds(tree, one, other) all_rounds(tree) counts_of(tree) shows_unlike(one, other)
rounds: opponent(players, turn, player) round_of(players, one, other) place_of(players, turn, player)
rounds: players_at(players, turn, place) plan(players)
classes: class_count(figures) class_of(figures, a, b) line_through(figures, number, point)
classes: lines_of(figures, number, *, limit=1000)
colours: colouring(count, threes, colours, *, limit=20000) check_colouring(count, threes, colours, told)
"""
METHODS = {
    Library: "set_system(name, tree) double(name, one) product(name, one, other) take_out(name, one, points) remove_system(name) "
             "ask(name, kind, one, points) drop(name) undo() redo() change_all(changes) system_names() question_names() "
             "system(name) question(name) answer(name) answers()",
    Session: "run(text)",
}
ERRORS = ("InvalidSystem InvalidTerm InvalidQuestion NothingToUndo NothingToRedo UnknownPoint UnknownName InvalidNotation "
          "InvalidPaper TooMany NameInUse").split(" ")

# Lists wherever lists may stand.
LISTED = ["listed", 7, [list(three) for three in FANO]]
TREE = ["product", LISTED, ["double", ["listed", 1, []]]]
ROWS = [list(three) for three in FANO]
SOME = [[6, 1, 0], [2, 3, 0]]
TERM = ["x", ["y", ["x", "z"]]]
OTHER = ["y", ["z", "x"]]
CALLS = [
    ("systems", "is_system", [TREE]), ("systems", "checked", [TREE]), ("systems", "size", [TREE]), ("systems", "three_count", [TREE]),
    ("systems", "threes_at", [TREE]), ("systems", "part_count", [TREE]), ("systems", "arms_of", [TREE]),
    ("systems", "check_point", [TREE, 20]), ("systems", "exists", [15]), ("systems", "built", [15]),
    ("notation", "format_system", [TREE]), ("notation", "parse_system", ["system\ndouble\nlisted 3\nthree 2 0 1"]),
    ("thirds", "third", [TREE, 3, 20]), ("thirds", "product", [TREE, 3, 3]), ("thirds", "are_three", [TREE, [2, 1, 0]]),
    ("thirds", "through", [TREE, 20]), ("threes", "three_at", [TREE, 40]), ("threes", "number_of", [TREE, [2, 0, 1]]),
    ("threes", "all_threes", [TREE]), ("partial", "kept_threes", [7, ROWS]), ("partial", "first_fault", [7, ROWS + SOME]),
    ("partial", "is_whole", [7, ROWS]), ("partial", "open_pairs", [7, SOME]), ("partial", "open_thirds", [7, SOME, 2, 1]),
    ("partial", "odd_point", [7, SOME]), ("completing", "complete", [7, SOME]), ("completing", "completion_count", [7, SOME]),
    ("completing", "is_completion", [7, ROWS[:2], ROWS]), ("completing", "filled", [9, SOME]),
    ("completing", "none_paper", [8, SOME]), ("completing", "check_none", [4, [], [[0, 1], [0, 3], [0, 2]]]),
    ("terms", "check_term", [TERM]), ("terms", "leaf_count", [TERM]), ("terms", "names_of", [TERM]), ("terms", "term_text", [TERM]),
    ("terms", "replaced", [TERM, {"x": ["z", ["y", "x"]], "q": "a"}]), ("terms", "value", [TREE, TERM, {"x": 1, "y": 2, "z": 20}]),
    ("plain", "plain", [TERM]), ("plain", "is_plain", [TERM]), ("plain", "equal_everywhere", [TERM, OTHER]),
    ("plain", "plain_count", [3, 5]), ("plain", "plain_forms", [["y", "x", "z", "x"], 4]), ("plain", "plain_forms", [["y", "x"], 1]),
    ("trying", "first_difference", [LISTED, TERM, OTHER]), ("trying", "holds_in", [LISTED, TERM, OTHER]), ("names", "is_name", ["x9"]),
    ("subsystems", "closed", [TREE, [20, 3, 20]]), ("subsystems", "is_closed", [TREE, [2, 0, 1, 0]]),
    ("subsystems", "growth", [TREE, [20, 3, 20, 4]]), ("subsystems", "chain", [TREE, [20, 3, 20, 4]]),
    ("subsystems", "taken_out", [TREE, [20, 3]]), ("subsystems", "least_points", [LISTED]), ("subsystems", "subsystems", [LISTED, 3]),
    ("subsystems", "subsystem_counts", [LISTED]), ("subsystems", "meet", [LISTED, [2, 1, 0], [0, 3, 4, 0]]),
    ("library", "decide", ["closed", TREE, [20, 3]]), ("commands", "split_words", [" a  b "]), ("commands", "is_command", [["undo"]]),
    ("texts", "threes_text", [7, ROWS]), ("texts", "parse_threes", ["threes 7\nthree 2 0 1"]), ("texts", "paper_text", [7, SOME]),
    ("texts", "parse_paper", ["whole\nthree 2 0 1"]), ("texts", "check_text", [3, [[2, 1, 0]], "whole\nthree 2 0 1"]),
    ("renaming", "listed", [TREE]), ("renaming", "same_threes", [LISTED, LISTED]), ("renaming", "renamed", [LISTED, [6, 5, 4, 3, 2, 1, 0]]),
    ("renaming", "turned_back", [[1, 2, 0]]), ("renaming", "one_after_another", [[1, 2, 0], [1, 0, 2]]), ("renaming", "rings", [[1, 2, 0, 3]]),
    ("likenesses", "is_likeness", [LISTED, LISTED, [0, 1, 2, 3, 4, 5, 6]]), ("likenesses", "base_of", [TREE]),
    ("likenesses", "likenesses", [LISTED, LISTED]), ("likenesses", "likeness", [LISTED, LISTED]), ("likenesses", "likeness_count", [LISTED, LISTED]),
    ("likenesses", "are_alike", [TREE, TREE]), ("likenesses", "places_of", [LISTED]),
    ("counts", "fours", [TREE]), ("counts", "four_count", [TREE]), ("counts", "rounds", [TREE, 0, 20]), ("counts", "all_rounds", [TREE]),
    ("counts", "counts_of", [TREE]), ("counts", "shows_unlike", [TREE, LISTED]),
    ("rounds", "opponent", [8, 6, 3]), ("rounds", "round_of", [8, 6, 3]), ("rounds", "place_of", [8, 6, 3]),
    ("rounds", "players_at", [8, 6, 3]), ("rounds", "plan", [8]), ("classes", "class_count", [3]), ("classes", "class_of", [3, 26, 1]),
    ("classes", "line_through", [3, 12, 1]), ("classes", "lines_of", [3, 12]), ("colours", "colouring", [7, ROWS, 3]),
    ("colours", "check_colouring", [7, ROWS, 3, [0, 0, 1, 0, 1, 1, 2]]),
]
REFUSED = [
    ("systems", "checked", [["double"]], "InvalidSystem"), ("systems", "check_point", [TREE, 21], "UnknownPoint"),
    ("systems", "built", [5], "InvalidQuestion"), ("notation", "parse_system", ["box"], "InvalidNotation"),
    ("thirds", "third", [TREE, 1, 1], "InvalidQuestion"), ("thirds", "through", [TREE, 1], "TooMany"),
    ("threes", "three_at", [TREE, -1], "InvalidQuestion"), ("partial", "kept_threes", [7, SOME + SOME], "InvalidSystem"),
    ("partial", "open_thirds", [7, SOME, 7, 0], "UnknownPoint"), ("completing", "complete", [9, []], "TooMany"),
    ("terms", "check_term", [["x"]], "InvalidTerm"), ("terms", "value", [TREE, TERM, {"x": 0, "z": 99}], "UnknownName"),
    ("plain", "plain_count", [27, 1], "InvalidQuestion"), ("trying", "holds_in", [TREE, TERM, OTHER], "TooMany"),
    ("subsystems", "meet", [LISTED, [1, 2], [0]], "InvalidQuestion"), ("library", "decide", ["box", TREE, []], "InvalidQuestion"),
    ("texts", "parse_threes", ["threes 7\n"], "InvalidNotation"), ("texts", "parse_paper", [""], "InvalidPaper"),
    ("texts", "check_text", [7, SOME, "box"], "InvalidPaper"), ("texts", "paper_text", [9, SOME], "TooMany"),
    ("renaming", "rings", [[1]], "InvalidQuestion"), ("renaming", "renamed", [LISTED, [0]], "InvalidQuestion"),
    ("likenesses", "likenesses", [LISTED, LISTED], "TooMany"), ("likenesses", "places_of", [["bose", 63]], "InvalidQuestion"),
    ("counts", "rounds", [LISTED, 0, 7], "UnknownPoint"), ("counts", "fours", [["bose", 63]], "InvalidQuestion"),
    ("rounds", "plan", [102], "InvalidQuestion"), ("classes", "class_of", [2, 9, 0], "UnknownPoint"), ("classes", "lines_of", [2, 0], "TooMany"),
    ("colours", "colouring", [7, ROWS, 11], "InvalidQuestion"), ("colours", "colouring", [7, ROWS, 2], "TooMany"),
]


def told(module, name):
    return getattr(importlib.import_module("paironce." + module), name)


def interface():
    for line in INTERFACE.strip().split("\n"):
        module, rest = line.split(": ")
        for form in rest.replace(") ", ")\n").split("\n"):
            name, arguments = form.split("(")
            yield module, name, "(" + arguments


def emptied(value):
    """Takes out all that stands in what was returned, as far as it can be changed."""
    for part in value.values() if isinstance(value, dict) else value if isinstance(value, (list, tuple)) else ():
        emptied(part)
    if isinstance(value, (list, dict)):
        value.clear()


class Interface(unittest.TestCase):
    def test_names_and_arguments(self):
        for module, name, arguments in interface():
            self.assertEqual(str(inspect.signature(told(module, name))), arguments, name)
            self.assertEqual(told(module, name).__module__, "paironce." + module)

    def test_methods(self):
        for kind, forms in METHODS.items():
            for form in forms.replace(") ", ")\n").split("\n"):
                name, arguments = form.split("(")
                self.assertEqual(str(inspect.signature(getattr(kind(), name))), "(" + arguments)
                self.assertIn(name, vars(kind))

    def test_each_function_is_called_here(self):
        called = {(module, name) for module, name, _ in CALLS}
        for module, name, _ in interface():
            if name not in ("Parting", "parting", "check_parting", "Library", "Session"):
                self.assertIn((module, name), called)

    def test_the_package_defines_nothing(self):
        with open(os.path.join(os.path.dirname(paironce.__file__), "__init__.py"), encoding="utf-8") as held:
            self.assertEqual(held.read(), "")


class Arguments(unittest.TestCase):
    def test_arguments_stay_as_they_are_and_what_is_returned_is_new(self):
        for module, name, arguments in CALLS:
            before = copy.deepcopy(arguments)
            first = told(module, name)(*arguments)
            kept = copy.deepcopy(first)
            self.assertEqual(arguments, before, name)
            emptied(first)
            self.assertEqual(arguments, before, name)
            self.assertEqual(told(module, name)(*arguments), kept, name)

    def test_partings(self):
        arguments = [copy.deepcopy(TERM), copy.deepcopy(OTHER)]
        first = parting(*arguments)
        self.assertIs(check_parting(*arguments, first), True)
        self.assertEqual(arguments, [TERM, OTHER])
        first.threes.clear()
        first.names.clear()
        self.assertEqual(arguments, [TERM, OTHER])
        self.assertIs(check_parting(*arguments, parting(*arguments)), True)

    def test_lists_are_copied_where_they_are_kept(self):
        threes, names, ends = [(0, 1, 2)], {"x": 0, "y": 1}, (2, 0)
        rows, places = [[2, 1, 0]], [2, 0]
        held, other = Parting(3, threes, names, ends), Parting(3, rows, names, places)
        for value in (threes, rows[0], rows, names, places):
            value.clear()
        self.assertEqual((held.count, held.threes, held.names, held.ends), (3, [(0, 1, 2)], {"x": 0, "y": 1}, (2, 0)))
        self.assertEqual((other.count, other.threes, other.names, other.ends), (3, [[2, 1, 0]], {"x": 0, "y": 1}, [2, 0]))
        self.assertIs(check_parting(["x", "y"], "x", held), True)

        library = Library()
        tree, points, more = copy.deepcopy(TREE), [20, 3], [0, 1]
        changes = [("set_system", "b", ["double", tree]), ("ask", "r", "closed", "b", more), ("take_out", "c", "b", more)]
        library.set_system("a", tree)
        library.ask("q", "closed", "a", points)
        library.change_all(changes)
        before = [library.system(name) for name in "abc"] + [library.question(name) for name in "qr"] + library.answers()
        self.assertEqual(points + more, [20, 3, 0, 1])
        self.assertEqual(tree, TREE)
        for value in (tree[1][2][0], tree[1][2], tree[1], tree, points, more, changes):
            value.clear()
        for name in library.system_names() + library.question_names():
            self.assertIn(name, "abcqr")
        for again in range(2):
            self.assertEqual([library.system(name) for name in "abc"] + [library.question(name) for name in "qr"] + library.answers(), before)
            for step in [library.undo] * 5 + [library.redo] * 5:
                step()
            library.system_names().clear()
            library.question_names().clear()
            library.answers().clear()


class Errors(unittest.TestCase):
    def test_each_error_is_of_the_program(self):
        seen = set()
        for module, name, arguments, error in REFUSED:
            limits = {"limit": 0} if error == "TooMany" else {}
            caught = raised(self, told("errors", error), told(module, name), *arguments, **limits)
            self.assertIsInstance(caught, PaironceError)
            self.assertIsInstance(caught, ValueError)
            seen.add(error)
        library = Library()
        library.set_system("s", ["bose", 3])
        library.ask("q", "size", "s", [])
        for error, call, arguments in (("NothingToUndo", Library().undo, []), ("NothingToRedo", library.redo, []),
                                       ("NameInUse", library.remove_system, ["s"]), ("UnknownName", library.answer, ["x"])):
            self.assertIsInstance(raised(self, told("errors", error), call, *arguments), PaironceError)
            seen.add(error)
        self.assertEqual(seen, set(ERRORS))

    def test_attributes(self):
        self.assertEqual(raised(self, UnknownPoint, told("counts", "rounds"), TREE, 0, 21).point, 21)
        self.assertEqual(raised(self, UnknownName, Library().drop, "x").name, "x")
        self.assertEqual(raised(self, TooMany, told("classes", "lines_of"), 3, 0, limit=8).limit, 8)
        self.assertEqual(raised(self, told("errors", "InvalidPaper"), told("texts", "parse_paper"), "none\nopen 0").line, 2)
        self.assertEqual(raised(self, told("errors", "InvalidNotation"), told("texts", "parse_threes"), "threes 9\n\n").line, 2)
        library = Library()
        self.assertEqual((library.decided, library.kept), (0, 0))
        self.assertIsInstance(Session().library, Library)
        held = Parting(1, [], {}, (0, 0))
        self.assertEqual((held.count, held.threes, held.names, held.ends), (1, [], {}, (0, 0)))
        library.set_system("s", ["listed", 9, NINE])
        library.ask("q", "size", "s", [])
        self.assertEqual(raised(self, told("errors", "NameInUse"), library.remove_system, "s").name, "s")
