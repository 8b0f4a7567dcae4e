"""Point [5] on names."""

import unittest

from makers import strange_values

from pullworks.words import is_name, is_one_of


class WordsTest(unittest.TestCase):

    def test_names(self):
        for value in ("a", "z", "az", "not", "count", "abcdefghijkl"):
            with self.subTest(value):
                self.assertIs(is_name(value), True)

    def test_no_names(self):
        wrong = ["A", "a_b", "a-b", "a\n", " a", "a ", "`", "{", "aA", "a0", "abcdefghijklm", "a" * 1000, b"a", ["a"]]
        for value in [*strange_values(), *wrong]:
            with self.subTest(repr(value)):
                self.assertIs(is_name(value), False)

    def test_one_of(self):
        self.assertIs(is_one_of("b", ("a", "b")), True)
        for value in [*strange_values(), "c", ["b"], ("a", "b")]:
            with self.subTest(repr(value)):
                self.assertIs(is_one_of(value, ("a", "b")), False)


if __name__ == "__main__":
    unittest.main()
