"""[1]: what an integer, a number, a base and a name is."""

import unittest

from everybase.kinds import is_base, is_integer, is_name, is_number
from tests.samples import NO_BASES, NO_INTEGERS, NO_NAMES, NO_NUMBERS


class Kinds(unittest.TestCase):

    def assert_told(self, ask, right, wrong):
        for value in right:
            self.assertIs(ask(value), True, value)
        for value in wrong:
            self.assertIs(ask(value), False, value)

    def test_integers(self):
        self.assert_told(is_integer, (0, 1, -1, 2, 10 ** 60, -(10 ** 60)), NO_INTEGERS)

    def test_numbers(self):
        self.assert_told(is_number, (0, 1, 2, 10 ** 60), NO_NUMBERS)

    def test_bases(self):
        self.assert_told(is_base, (2, 3, 10, 10 ** 30), NO_BASES)

    def test_names(self):
        letters = tuple("abcdefghijklmnopqrstuvwxyz")
        self.assert_told(is_name, letters + ("ab", "abc", "abcd", "zzzz"), NO_NAMES)


if __name__ == "__main__":
    unittest.main()
