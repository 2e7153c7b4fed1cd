import unittest

from paironce.commands import is_command, split_words
from helper import NAMES, NO_NAMES, unchanged

NUMBERS = ("0", "1", "7", "10", "9" * 31, "1" + "0" * 30)
NO_NUMBERS = ("", "00", "01", "007", "-1", "+1", "-0", "1.0", "1_0", "1e3", "a", "x1", "9" * 32, "1" + "0" * 31, " 1", "1 ", "0x1",
              "\u0661", "\u00b2", "\uff11", "1\n", "I")

# Each form with names for N and points for P, and the greatest number of points more.
FORMS = [
    ("system N", 0), ("double N N", 0), ("product N N N", 0), ("take N N P", 5), ("remove N", 0), ("ask N size N", 0),
    ("ask N least N", 0), ("ask N third N P P", 0), ("ask N closed N", 6), ("drop N", 0), ("answer N", 0), ("answers", 0),
    ("print N", 0), ("systems", 0), ("questions", 0), ("undo", 0), ("redo", 0),
]


def filled(form, name="x", point="3"):
    return [{"N": name, "P": point}.get(word, word) for word in form.split(" ")]


class Words(unittest.TestCase):
    def test_words(self):
        for line, words in (("undo", ["undo"]), ("  undo  ", ["undo"]), ("a b", ["a", "b"]), ("a    b c ", ["a", "b", "c"]),
                            (" ask q  size   s", ["ask", "q", "size", "s"]), ("1 -2 ..", ["1", "-2", ".."])):
            self.assertEqual(unchanged(self, split_words, line), words)

    def test_no_words(self):
        for line in ("", " ", "     "):
            self.assertEqual(split_words(line), [])

    def test_other_white_space(self):
        for sign in ("\t", "\r", "\v", "\f", "\n", "\u00a0", "\u2003", "\u3000", "\x1c", "\x85"):
            self.assertEqual(split_words("a" + sign + "b"), ["a" + sign + "b"])
            self.assertEqual(split_words(sign), [sign])
            self.assertEqual(split_words(" " + sign + " a" + sign), [sign, "a" + sign])

    def test_lists_are_new(self):
        split_words("a b").append("c")
        self.assertEqual(split_words("a b"), ["a", "b"])


class Commands(unittest.TestCase):
    def test_forms(self):
        for form, more in FORMS:
            words = filled(form)
            for many in range(more + 1):
                self.assertIs(unchanged(self, is_command, words + ["5"] * many), True, (form, many))
            self.assertIs(is_command(words + ["5"] * (more + 1)), False, form)
            self.assertIs(is_command(words + ["x"]), False, form)
            self.assertIs(is_command(words + [""]), False, form)

    def test_too_few_words(self):
        for form, _ in FORMS:
            words = filled(form)
            for many in range(1, len(words)):
                self.assertIs(is_command(words[:many]), False, words[:many])

    def test_names(self):
        for form, _ in FORMS:
            words = filled(form)
            for at, word in enumerate(form.split(" ")):
                if word == "N":
                    for name in NAMES:
                        self.assertIs(is_command(words[:at] + [name] + words[at + 1:]), True)
                    for name in NO_NAMES + NO_NUMBERS[:4] + ("12",):
                        self.assertIs(is_command(words[:at] + [name] + words[at + 1:]), False, (form, name))

    def test_numbers(self):
        for form, more in FORMS:
            words = filled(form) + ["5"] * more
            first = len(words) - more - form.count("P")
            for at in range(first, len(words)):
                for number in NUMBERS:
                    self.assertIs(is_command(words[:at] + [number] + words[at + 1:]), True, (form, number))
                for number in NO_NUMBERS:
                    self.assertIs(is_command(words[:at] + [number] + words[at + 1:]), False, (form, number))

    def test_words_of_commands_as_names(self):
        for word in ("system", "double", "product", "take", "remove", "ask", "drop", "answer", "answers", "print", "systems",
                     "questions", "undo", "redo", "size", "third", "closed", "least", "end", "three", "bose"):
            for form, more in FORMS:
                self.assertIs(is_command(filled(form, name=word) + ["0"] * more), True)

    def test_no_commands(self):
        for line in ("end", "bose 9", "listed 3", "three 0 1 2", "System s", "SYSTEM s", "systems s", "undo undo", "undo 1",
                     "take x y", "take x y z", "take x y -1", "ask", "ask q", "ask q size", "ask q size s 0", "ask q least s 1",
                     "ask q third s", "ask q third s 1", "ask q third s 1 2 3", "ask q box s", "ask q box s 1", "ask q Size s",
                     "ask size q s", "ask q s size", "ask q closed", "ask q closed s x", "ask q closed s 1 2 3 4 5 6 7",
                     "ask q closed 1", "answer", "answers x", "print", "print x y", "double x", "double x y z", "product x y",
                     "product x y z w", "remove", "remove x y", "x", "0", "decide", "set x", "size x", "drop x 1", "\tundo", "undo\r"):
            self.assertIs(is_command(line.split(" ")), False, line)
        self.assertIs(is_command([""]), False)
        self.assertIs(is_command(["", "undo"]), False)
        self.assertIs(is_command(["undo", ""]), False)

    def test_commands(self):
        for line in ("system s", "take t d 0", "take t d 0 0 0 0 0 0", "ask n size d", "ask n third d 0 0", "ask c closed d",
                     "ask c closed d 1 2 3 4 5 6", "ask l least d", "answers", "product p p p"):
            self.assertIs(is_command(line.split(" ")), True, line)
