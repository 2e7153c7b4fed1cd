import unittest

from paironce.names import is_name
from helper import NAMES, NO_NAMES


class Names(unittest.TestCase):
    def test_names(self):
        for name in NAMES + ("a", "z", "a0", "z9", "m" * 12, "b" + "9" * 11, "abcdefghijkl", "mnopqrstuvwx", "yz0123456789"):
            self.assertIs(is_name(name), True, name)

    def test_no_names(self):
        for name in NO_NAMES:
            self.assertIs(is_name(name), False, name)

    def test_each_sign(self):
        letters = "abcdefghijklmnopqrstuvwxyz"
        digits = "0123456789"
        for sign in [chr(code) for code in range(0, 0x600)]:
            self.assertIs(is_name(sign), sign in letters, sign)
            self.assertIs(is_name("a" + sign), sign in letters + digits, sign)
            self.assertIs(is_name("a" + sign + "b"), sign in letters + digits, sign)

    def test_lengths(self):
        for length in range(20):
            self.assertIs(is_name("a" * length), 1 <= length <= 12)
            self.assertIs(is_name("a" + "1" * length), length < 12)
