"""Digits of integers from 0 on, also of more than str and int of Python take."""

import sys
import unittest

from tests.helpers import leaves_alone
from unwrittenrow.numerals import number_in, numbers_in, shown

SOME = list(range(300)) + [10 ** k + more for k in (59, 60, 61, 119, 120, 121, 600, 4000) for more in (-1, 0, 1)]


class Numerals(unittest.TestCase):
    def test_as_python_shows_them(self):
        for number in SOME:
            self.assertEqual(shown(number), str(number))
            self.assertEqual(number_in(str(number)), number)

    def test_more_digits_than_python_takes(self):
        self.assertGreater(9000, sys.get_int_max_str_digits())
        self.assertEqual(shown(10 ** 9000 - 1), "9" * 9000)
        self.assertEqual(number_in("9" * 9000), 10 ** 9000 - 1)

    def test_words_that_show_none(self):
        for word in ("", "00", "01", "-1", "-0", "+1", "1_0", " 1", "1 ", "1.0", "a", ";", "0x1", "1e3", "\u00b2", "\u0663"):
            self.assertIsNone(number_in(word))

    def test_several_words(self):
        words = ["7", "x", "0"]
        self.assertEqual(leaves_alone(self, numbers_in, words), (7, None, 0))
        self.assertEqual(numbers_in([]), ())


if __name__ == "__main__":
    unittest.main()
