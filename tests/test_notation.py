import unittest

from paironce.errors import InvalidNotation, InvalidSystem
from paironce.notation import format_system, parse_system
from paironce.systems import checked
from helper import FANO, GREAT, NINE, NO_TREES, SMALL, doubled, raised, run_examples, unchanged

FANO_LINES = ("listed 7\nthree 0 1 2\nthree 0 3 4\nthree 0 5 6\nthree 1 3 5\nthree 1 4 6\nthree 2 3 6\n"
              "three 2 4 5")


class Written(unittest.TestCase):
    def test_examples(self):
        run_examples(self, r"""
>>> from paironce.notation import format_system, parse_system
>>> format_system(("product", ("bose", 3), ("listed", 3, ((0, 1, 2),))))
'system\nproduct\nbose 3\nlisted 3\nthree 0 1 2'
>>> parse_system("system\ndouble\nlisted 1")
('double', ('listed', 1, ()))
>>> parse_system("system\nproduct\nbose 9")
raises InvalidNotation
>>> parse_system("system\nbose 10")
raises InvalidSystem
""")

    def test_each_kind(self):
        for tree, text in (
            (("bose", 9), "bose 9"), (["skolem", 7], "skolem 7"), (("affine", 60), "affine 60"),
            (("binary", 99), "binary 99"), (("bose", 10 ** 30 - 1), "bose " + "9" * 30),
            (("skolem", 10 ** 30 - 3), "skolem " + "9" * 29 + "7"),
            (["listed", 1, []], "listed 1"), (("listed", 7, FANO), FANO_LINES),
            (["double", ["bose", 9]], "double\nbose 9"),
            (["double", ("listed", 7, FANO)], "double\n" + FANO_LINES),
            (("product", ("listed", 7, FANO), ["binary", 2]), "product\n" + FANO_LINES + "\nbinary 2"),
            (("product", ("binary", 2), ("listed", 7, FANO)), "product\nbinary 2\n" + FANO_LINES),
            (("product", ("double", ("listed", 3, [(2, 0, 1)])), ("product", ("listed", 1, ()), ("affine", 3))),
             "product\ndouble\nlisted 3\nthree 0 1 2\nproduct\nlisted 1\naffine 3"),
            (doubled(("bose", 3), 11), "double\n" * 11 + "bose 3"),
        ):
            self.assertEqual(unchanged(self, format_system, tree), "system\n" + text)
            self.assertEqual(repr(parse_system("system\n" + text)), repr(checked(tree)))

    def test_threes_in_another_order(self):
        turned = format_system(("listed", 7, FANO[::-1]))
        self.assertEqual(turned.split("\n")[2:], FANO_LINES.split("\n")[:0:-1])
        self.assertEqual(parse_system(turned), checked(("listed", 7, FANO[::-1])))

    def test_there_and_back(self):
        for tree in SMALL + GREAT:
            text = format_system(tree)
            told = parse_system(text)
            self.assertEqual(repr(told), repr(checked(tree)))
            self.assertEqual(format_system(told), text)

    def test_points_in_another_order(self):
        for text in ("0 1 2", "0 2 1", "1 0 2", "1 2 0", "2 0 1", "2 1 0"):
            self.assertEqual(parse_system("system\nlisted 3\nthree " + text), ("listed", 3, ((0, 1, 2),)))

    def test_no_trees(self):
        for tree in NO_TREES:
            raised(self, InvalidSystem, format_system, tree)


class WrongForm(unittest.TestCase):
    def wrong(self, text, line):
        self.assertEqual(raised(self, InvalidNotation, parse_system, text).line, line, repr(text))

    def test_empty_lines(self):
        self.wrong("", 1)
        self.wrong("\n", 1)
        self.wrong("\nsystem\nbose 9", 1)
        self.wrong("system\n", 2)
        self.wrong("system\n\nbose 9", 2)
        self.wrong("system\nbose 9\n", 3)
        self.wrong("system\nbose 9\n\n", 3)
        self.wrong("system\nproduct\nbose 9\n\nbose 9", 4)
        self.wrong("system\nlisted 3\n\nthree 0 1 2", 3)
        self.wrong("system\nlisted 3\nthree 0 1 2\n", 4)

    def test_first_line(self):
        for line in (" system", "system ", "System", "SYSTEM", "systems", "syste", "system 1", "bose 9", "double",
                     "three 0 1 2", "system\r", "system\t", "system system"):
            self.wrong(line, 1)
            self.wrong(line + "\nbose 9", 1)

    def test_lines_of_kinds(self):
        for line in (" bose 9", "bose 9 ", "bose  9", "Bose 9", "bose", "bose 9 9", "bose nine", "bose -9", "bose +9",
                     "bose 09", "bose 00", "bose 9.0", "bose 1_5", "bose 9\r", "bose\t9", "bose ", " ", "system",
                     "box 9", "skolem", "skolem 7 7", "affine", "affine 01", "binary", "binary 2 3", "listed",
                     "listed 3 0 1 2", "listed -1", "double 9", "double ", " double", "Double", "product 3 3",
                     "product ", "three 0 1 2", "three", "9", "bose \u00b2", "bose \u0663", "double bose 9", "end"):
            self.wrong("system\n" + line, 2)
            self.wrong("system\n" + line + "\nbose 9", 2)
            self.wrong("system\ndouble\n" + line, 3)
            self.wrong("system\nproduct\nbose 3\n" + line, 4)
            self.wrong("system\nproduct\n" + line + "\nbose 3", 3)

    def test_lines_of_threes(self):
        for line in ("three 0 1", "three 0 1 2 3", "three", "three 0 1 02", "three 0 -1 2", "three 0 1 +2", "0 1 2",
                     "three  0 1 2", "three 0 1 2 ", " three 0 1 2", "Three 0 1 2", "three 0 1 x", "three 0 1  2",
                     "three 0 1 " + "1" * 32, "threes 0 1 2", "three 0,1,2", "three 0 1 \u0662"):
            self.wrong("system\nlisted 3\n" + line, 3)
            self.wrong("system\nlisted 3\n" + line + "\nthree 0 1 2", 3)
            self.wrong("system\nlisted 3\nthree 0 1 2\n" + line, 4)

    def test_digits(self):
        for kind in ("bose", "skolem", "affine", "binary", "listed"):
            for word in ("0", "9" * 31, "1" + "0" * 30):
                raised(self, InvalidSystem, parse_system, "system\n" + kind + " " + word)
            for word in ("1" * 32, "0" * 31, "0" + "1" * 30, "1" + "0" * 31):
                self.wrong("system\n" + kind + " " + word, 2)
        raised(self, InvalidSystem, parse_system, "system\nlisted 3\nthree 0 1 " + "9" * 31)
        self.assertEqual(parse_system("system\nbose " + "9" * 30), ("bose", 10 ** 30 - 1))

    def test_threes_behind_another_kind(self):
        self.wrong("system\nbose 3\nthree 0 1 2", 3)
        self.wrong("system\nthree 0 1 2", 2)
        self.wrong("system\ndouble\nthree 0 1 2\nlisted 3", 3)
        self.wrong("system\nproduct\nlisted 3\nthree 0 1 2\nbose 3\nthree 0 1 2", 6)
        self.wrong("system\nproduct\nthree 0 1 2\nlisted 3\nbose 3", 3)
        self.wrong("system\nlisted 3\ndouble\nthree 0 1 2", 3)

    def test_a_line_too_many(self):
        for line in ("bose 3", "double", "listed 1", "system", "x"):
            self.wrong("system\nbose 3\n" + line, 3)
            self.wrong("system\nlisted 3\nthree 0 1 2\n" + line, 4)
            self.wrong("system\nproduct\nbose 3\nbose 3\n" + line, 5)
            self.wrong("system\ndouble\ndouble\naffine 1\n" + line, 5)

    def test_trees_that_are_not_whole(self):
        self.wrong("system", 2)
        self.wrong("system\ndouble", 3)
        self.wrong("system\ndouble\ndouble", 4)
        self.wrong("system\nproduct", 3)
        self.wrong("system\nproduct\nbose 9", 4)
        self.wrong("system\nproduct\nlisted 3\nthree 0 1 2\nthree 0 1 2", 6)
        self.wrong("system\nproduct\ndouble\nbose 9", 5)
        self.wrong("system\nproduct\nbose 9\nproduct\nbose 9", 6)
        self.wrong("system\n" + "\n".join(["product"] * 3000), 3002)

    def test_the_first_fault_counts(self):
        self.wrong("system\nbose x\nbose y\n", 2)
        self.wrong("system\nlisted 5\nthree 0 0 0\nthree 1\n\n", 4)
        self.wrong("system\nproduct\nbose 9\nbose  9\nbose 9", 4)
        self.wrong("system\nbose 10\nbose 9", 3)
        self.wrong("system\ndouble\nbose 10\n", 4)
        self.wrong("system\nproduct\nbose 10", 4)
        self.wrong("x\n\n", 1)
        self.wrong("system\n" + "double\n" * 20, 22)


class NoSystem(unittest.TestCase):
    def test_right_form(self):
        for text in ("bose 10", "bose 0", "skolem 1", "affine 0", "affine 61", "binary 1", "binary 100", "listed 0",
                     "listed 2", "listed 3", "listed 61", "listed 3\nthree 0 1 2\nthree 0 1 2",
                     "listed 3\nthree 0 1 1", "listed 3\nthree 0 1 3", "listed 3\nthree 5 5 5", "listed 1\nthree 0 0 0",
                     "double\nbose 10", "double\nbinary 99",
                     "product\nbose 3\nskolem 9", "product\naffine 60\nskolem 25", "product\naffine 0\nbose 3",
                     "double\n" * 12 + "bose 3", "double\n" * 3000 + "listed 1",
                     "product\nlisted 1\n" * 2000 + "listed 1", "product\n" * 2000 + "\n".join(["bose 3"] * 2001),
                     FANO_LINES[:-len("\nthree 2 4 5")], FANO_LINES + "\nthree 2 4 5",
                     "listed 7\n" + "\n".join(["three 0 1 2"] * 5000)):
            raised(self, InvalidSystem, parse_system, "system\n" + text)

    def test_twelve_parts(self):
        self.assertEqual(parse_system("system\n" + "double\n" * 11 + "bose 3"), doubled(("bose", 3), 11))
        text = "system\n" + "product\nlisted 1\n" * 5 + "double\naffine 1"
        self.assertEqual(format_system(parse_system(text)), text)
        raised(self, InvalidSystem, parse_system, text.replace("affine 1", "double\naffine 1"))

    def test_nine(self):
        lines = ["three " + " ".join(str(point) for point in three) for three in NINE]
        told = ("listed", 9, tuple(tuple(sorted(three)) for three in NINE))
        self.assertEqual(parse_system("\n".join(["system", "listed 9"] + lines)), told)
        for at in range(12):
            raised(self, InvalidSystem, parse_system, "\n".join(["system", "listed 9"] + lines[:at] + lines[at + 1:]))
