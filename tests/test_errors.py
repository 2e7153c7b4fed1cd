import unittest

from paironce import errors


class Errors(unittest.TestCase):
    def test_all_come_from_the_base_class(self):
        self.assertTrue(issubclass(errors.PaironceError, ValueError))
        for name in ("InvalidSystem", "InvalidTerm", "InvalidQuestion", "NothingToUndo", "NothingToRedo",
                     "UnknownPoint", "UnknownName", "InvalidNotation", "InvalidPaper", "TooMany", "NameInUse"):
            error = getattr(errors, name)
            self.assertEqual(error.__bases__, (errors.PaironceError,))
            self.assertEqual(error.__module__, "paironce.errors")

    def test_errors_without_attributes(self):
        for error in (errors.PaironceError, errors.InvalidSystem, errors.InvalidTerm,
                      errors.InvalidQuestion, errors.NothingToUndo, errors.NothingToRedo):
            self.assertIsInstance(error("said"), ValueError)

    def test_errors_with_one_attribute(self):
        self.assertEqual(errors.UnknownPoint(7).point, 7)
        self.assertEqual(errors.UnknownName("x").name, "x")
        self.assertEqual(errors.InvalidNotation(3).line, 3)
        self.assertEqual(errors.InvalidPaper(4).line, 4)
        self.assertEqual(errors.TooMany(0).limit, 0)
        self.assertEqual(errors.NameInUse("s").name, "s")

    def test_numbers_that_python_does_not_write(self):
        great = 7 << 20000
        self.assertEqual(errors.UnknownPoint(great).point, great)
        self.assertEqual(errors.TooMany(great).limit, great)
        self.assertTrue(str(errors.UnknownPoint(great)))
