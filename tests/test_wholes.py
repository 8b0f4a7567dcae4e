"""Point [2] on integers, and the interface of pullworks/wholes.py."""

import unittest

from makers import strange_values

from pullworks.wholes import is_between, is_integer, is_parameter, power


class WholesTest(unittest.TestCase):

    def test_integers(self):
        for value in (0, 1, -1, 7, 10 ** 30, -10 ** 30, 10 ** 400, -10 ** 400):
            with self.subTest(value):
                self.assertIs(is_integer(value), True)
                self.assertIs(is_integer(value=value), True)

    def test_no_integers(self):
        for value in [*strange_values(), "1", b"1", [0], (0,), {0: 0}, int]:
            with self.subTest(repr(value)):
                self.assertIs(is_integer(value), False)

    def test_between(self):
        found = [value for value in range(-3, 9) if is_between(value, -1, 4)]
        self.assertEqual(found, [-1, 0, 1, 2, 3, 4])
        for value in (True, False, None, "1", [1]):
            self.assertIs(is_between(value, -1, 4), False)

    def test_parameters(self):
        for value in (0, 10 ** 30, -10 ** 30):
            self.assertIs(is_parameter(value), True)
        for value in (10 ** 30 + 1, -10 ** 30 - 1, True, False, None, "1"):
            self.assertIs(is_parameter(value), False)

    def test_power(self):
        for base in (1, 5, 403):
            for exponent in (0, 1, 2, 31):
                self.assertEqual(power(base, exponent), base ** exponent)


if __name__ == "__main__":
    unittest.main()
