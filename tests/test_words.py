"""Whole numbers as words, for [17], [61] and [62]."""

import contextlib
import random
import sys
import unittest

from plugproof.words import is_number_within, is_number_word, is_short_number_word, number_text, number_told


@contextlib.contextmanager
def most_figures(many):
    """Python itself reads and writes numbers of so many figures (any, for 0)."""
    before = sys.get_int_max_str_digits()
    sys.set_int_max_str_digits(many)
    try:
        yield
    finally:
        sys.set_int_max_str_digits(before)


class NumbersTest(unittest.TestCase):
    def holds(self, number, word):
        self.assertTrue(number_text(number) == word, word[:50])
        self.assertTrue(number_told(word) == number, word[:50])
        self.assertTrue(is_number_word(word), word[:50])

    def pairs(self):
        draw = random.Random(61)
        numbers = [number for figures in range(0, 400) for number in (10 ** figures - 1, 10 ** figures, 10 ** figures + 1)]
        numbers += [10 ** (64 * parts) + more for parts in range(1, 70) for more in (-1, 0, 1, 10 ** 63, -10 ** 64)]
        numbers += [draw.randrange(10 ** draw.randint(1, 9000)) for _ in range(150)]
        with most_figures(0):
            return [(number, str(number)) for number in numbers] + [(-number, str(-number)) for number in numbers]

    def test_beside_python_itself(self):
        for number, word in self.pairs():
            self.holds(number, word)

    def test_under_any_limit_of_python_itself(self):
        pairs = self.pairs()[::7]
        for many in (640, 4300, 0):
            with most_figures(many):
                for number, word in pairs:
                    self.holds(number, word)

    def test_small_numbers(self):
        for number in range(-1100, 1101):
            self.holds(number, f"{number}")

    def test_a_hundred_thousand_figures(self):
        self.holds(10 ** 100000 - 1, "9" * 100000)
        self.holds(-10 ** 100000, "-1" + "0" * 100000)


class FiguresTest(unittest.TestCase):
    def test_words_of_any_number_of_figures(self):
        for figures in (1, 2, 3999, 4000, 4001, 4300, 4301, 9000):
            for sign in ("", "-"):
                word = sign + "7" * figures
                self.assertTrue(is_number_word(word))
                self.assertEqual(is_short_number_word(word), figures <= 4000)
                self.assertEqual(is_number_within(word, -10 ** 9999, 10 ** 9999), figures <= 4000)

    def test_what_is_no_number(self):
        for word in ("", "-", "+", "-0", "00", "01", "-01", "--1", "+1", "1-", "1.", "1,2", " 1", "1 ", "1\n", "1_0", "x", "\u0661", "\u00b2"):
            self.assertFalse(is_number_word(word), word)
            self.assertFalse(is_short_number_word(word), word)
            self.assertFalse(is_number_within(word, -100, 100), word)

    def test_within(self):
        for word, number in (("0", 0), ("-3", -3), ("12", 12), ("9" * 4000, 10 ** 4000 - 1)):
            self.assertTrue(is_number_within(word, number, number))
            self.assertTrue(is_number_within(word, number - 1, number + 1))
            self.assertFalse(is_number_within(word, number + 1, number + 2))
            self.assertFalse(is_number_within(word, number - 2, number - 1))


if __name__ == "__main__":
    unittest.main()
