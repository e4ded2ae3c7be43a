"""[0.3] What a whole number and a name are."""

import unittest

from farbetween.kinds import is_name, is_whole
from farbetween.shares import Share
from tests.helper import anything


class Kinds(unittest.TestCase):

    def test_whole_numbers(self):
        for thing in [0, 1, -1, 10 ** 12, -10 ** 12, 10 ** 5000]:
            self.assertIs(is_whole(thing), True)

    def test_no_whole_numbers(self):
        for thing in anything() + [Share(1)]:
            self.assertIs(is_whole(thing), False, thing)

    def test_names(self):
        for thing in ["a", "z", "az", "stop", "abcdefgh", "zzzzzzzz"]:
            self.assertIs(is_name(thing), True, thing)

    def test_no_names(self):
        for thing in ["", "abcdefghi", "A", "aB", "a1", "1", "a b", " a", "a ", "-", "a_", "a\n", "\xe9", "`", "{"]:
            self.assertIs(is_name(thing), False, thing)

    def test_no_names_of_other_kinds(self):
        for thing in anything() + [0, 1, b"a", ["a"], ("a",), Share(1)]:
            if thing != "a":
                self.assertIs(is_name(thing), False, thing)


if __name__ == "__main__":
    unittest.main()
