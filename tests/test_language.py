"""The rules of the language that a walk over the code can see."""

import ast
import builtins
import os
import re
import unittest

import paironce

FOLDER = os.path.dirname(os.path.abspath(paironce.__file__))
BUILTINS = {
    "len", "range", "enumerate", "zip", "min", "max", "sum", "abs", "sorted", "reversed", "int", "str", "bool",
    "list", "tuple", "dict", "set", "isinstance", "ord", "repr", "any", "all", "divmod", "super",
    "ValueError", "KeyError", "IndexError",
}
LIBRARY = {("math", "isqrt"), ("math", "gcd"), ("math", "comb"), ("itertools", "product"),
           ("itertools", "combinations"), ("itertools", "permutations")}
WORDS = ("type", "typing", "enum", "dataclass", "overload", "contextmanager", "register", "mro", "elements",
         "open", "input", "law", "global", "async", "chr")
NODES_NOT_ALLOWED = (ast.AsyncFunctionDef, ast.Div, ast.MatMult, ast.Global, ast.Import)


def files():
    return sorted(name for name in os.listdir(FOLDER) if name != "__pycache__")


def read(name):
    with open(os.path.join(FOLDER, name), "rb") as held:
        return held.read().decode("utf-8")


class Language(unittest.TestCase):
    def test_files(self):
        for name in files():
            self.assertRegex(name, r"^[a-z_]+\.py$")
            text = read(name)
            lines = text.split("\n")
            self.assertLessEqual(len(lines), 399, name)
            for line in lines:
                self.assertLessEqual(len(line), 120, (name, line))
                self.assertTrue(all(" " <= sign <= "~" for sign in line), (name, line))
                self.assertEqual(line, line.rstrip(), name)

    def test_functions_are_small(self):
        for name in files():
            for node in ast.walk(ast.parse(read(name))):
                if isinstance(node, ast.FunctionDef):
                    self.assertLessEqual(node.end_lineno - node.lineno + 1, 40, (name, node.name))
                    self.assertEqual(node.decorator_list, [], (name, node.name))

    def test_imports(self):
        seen = {}
        for name in files():
            tree = ast.parse(read(name))
            seen[name] = []
            for node in ast.walk(tree):
                if not isinstance(node, ast.ImportFrom):
                    continue
                self.assertIn(node, tree.body)
                for told in node.names:
                    self.assertIsNone(told.asname)
                    if (node.module, told.name) not in LIBRARY:
                        package, file = node.module.split(".")
                        self.assertEqual(package, "paironce")
                        self.assertIn(told.name, self.defined(file + ".py"))
                        seen[name].append(file + ".py")
        # Files that import each other would never run out here.
        while seen:
            free = [name for name in seen if not set(seen[name]) & set(seen)]
            self.assertTrue(free, seen)
            for name in free:
                del seen[name]

    def defined(self, name):
        told = []
        for node in ast.parse(read(name)).body:
            if isinstance(node, (ast.FunctionDef, ast.ClassDef)):
                told.append(node.name)
            elif isinstance(node, ast.Assign):
                told.append(node.targets[0].id)
        return told

    def test_statements(self):
        for name in files():
            tree = ast.parse(read(name))
            for node in ast.walk(tree):
                self.assertNotIsInstance(node, NODES_NOT_ALLOWED, name)
                self.assertNotIsInstance(getattr(node, "value", None), (float, complex), name)
                if isinstance(node, ast.BinOp) and isinstance(node.op, ast.Pow):
                    self.assertIsInstance(node.right, ast.Constant, name)
            for node in tree.body:
                self.assertIsInstance(node, (ast.Expr, ast.ImportFrom, ast.FunctionDef, ast.ClassDef, ast.Assign))

    def test_names(self):
        for name in files():
            tree = ast.parse(read(name))
            own = set(self.defined(name))
            self.assertEqual(len(own), len(self.defined(name)), name)
            imported = {told.name for node in tree.body if isinstance(node, ast.ImportFrom) for told in node.names}
            self.assertEqual(own & imported, set(), name)
            for node in ast.walk(tree):
                stored = isinstance(node, ast.Name) and not isinstance(node.ctx, ast.Load)
                if stored or isinstance(node, ast.arg):
                    told = node.id if stored else node.arg
                    self.assertNotIn(told, dir(builtins), name)
                    self.assertNotIn(told, imported, name)
                    self.assertNotIn(told, WORDS, name)
                if isinstance(node, ast.Name) and node.id in dir(builtins):
                    self.assertIn(node.id, BUILTINS, name)
                if isinstance(node, ast.Attribute):
                    self.assertNotIn(node.attr, WORDS, name)
            # An imported name that is not used stands in the file only once.
            for told in imported:
                self.assertGreater(len(re.findall(r"\b" + told + r"\b", read(name))), 1, (name, told))

    def test_strings(self):
        for name in files():
            tree = ast.parse(read(name))
            held = [node for node in ast.walk(tree)
                    if isinstance(node, (ast.Module, ast.FunctionDef, ast.ClassDef))]
            docstrings = [node.body[0].value for node in held if node.body and isinstance(node.body[0], ast.Expr)]
            for node in ast.walk(tree):
                if isinstance(node, ast.Constant) and isinstance(node.value, str) and node not in docstrings:
                    self.assertNotIn("%", node.value, name)
                    self.assertNotRegex(node.value, r"\b(type|enum|Flag|ABC)\b")
                    self.assertNotRegex(node.value, r"^__.*__$")


class Interface(unittest.TestCase):
    LISTED = {
        "errors": ("PaironceError InvalidSystem InvalidTerm InvalidQuestion NothingToUndo NothingToRedo "
                   "UnknownPoint UnknownName InvalidNotation InvalidPaper TooMany NameInUse"),
        "systems": "is_system checked size three_count threes_at part_count arms_of check_point exists built",
        "thirds": "third product are_three through",
        "notation": "format_system parse_system",
        "threes": "three_at number_of all_threes",
        "partial": "kept_threes first_fault is_whole open_pairs open_thirds odd_point",
        "completing": "complete completion_count is_completion filled none_paper check_none",
        "terms": "check_term leaf_count names_of term_text replaced value",
        "plain": "plain is_plain equal_everywhere Parting parting check_parting plain_count plain_forms",
        "trying": "first_difference holds_in",
        "names": "is_name",
        "subsystems": "closed is_closed growth chain taken_out least_points subsystems subsystem_counts meet",
        "library": "decide Library",
        "commands": "split_words is_command",
        "session": "Session",
        "texts": "threes_text parse_threes paper_text parse_paper check_text",
        "renaming": "listed same_threes renamed turned_back one_after_another rings",
        "likenesses": "is_likeness base_of likenesses likeness likeness_count are_alike places_of",
        "counts": "fours four_count rounds all_rounds counts_of shows_unlike",
        "rounds": "opponent round_of place_of players_at plan",
        "classes": "class_count class_of line_through lines_of",
        "colours": "colouring check_colouring",
    }

    METHODS = {
        ("library", "Library"): ("set_system double product take_out remove_system ask drop undo redo change_all "
                                 "system_names question_names system question answer answers"),
        ("session", "Session"): "run",
    }

    def test_each_method_is_defined_in_its_class(self):
        for (file, name), methods in self.METHODS.items():
            held = [node for node in ast.parse(read(file + ".py")).body if getattr(node, "name", None) == name]
            told = [node.name for node in held[0].body if isinstance(node, ast.FunctionDef)]
            for method in methods.split():
                self.assertIn(method, told)

    def test_each_is_defined_in_its_file(self):
        for file, names in self.LISTED.items():
            told = [node.name for node in ast.parse(read(file + ".py")).body
                    if isinstance(node, (ast.FunctionDef, ast.ClassDef))]
            for name in names.split():
                self.assertIn(name, told)
