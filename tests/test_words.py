"""Point [2]: names and numbers of craneyard/words.py, and the words of lines."""

import unittest

from craneyard.words import is_among, is_name, number_of, words_of
from things import no_numbers, no_texts


class Names(unittest.TestCase):
    def test_names(self):
        for word in ("a", "z", "m", "ab", "crane", "boxes", "abcdefg", "abcdefgh", "zzzzzzzz", "none"):
            with self.subTest(word):
                self.assertIs(is_name(word), True)

    def test_every_small_letter(self):
        for letter in "abcdefghijklmnopqrstuvwxyz":
            self.assertIs(is_name(letter), True)

    def test_too_short_and_too_long(self):
        for word in ("", "abcdefghi", "a" * 100, "a" * 10 ** 5):
            with self.subTest(len(word)):
                self.assertIs(is_name(word), False)

    def test_other_signs(self):
        signs = [chr(code) for code in list(range(32, 127)) + [9, 10, 13] if not 97 <= code <= 122]
        for sign in signs:
            for word in (sign, sign + "b", "b" + sign, "b" + sign + "b"):
                with self.subTest(word):
                    self.assertIs(is_name(word), False)

    def test_of_anything(self):
        for thing in no_texts() + [0, 1, -1, 10 ** 30, 10 ** 9000]:
            with self.subTest(thing.__class__):
                self.assertIs(is_name(thing), False)


class Among(unittest.TestCase):
    def test_bounds(self):
        for least, most in ((0, 0), (0, 5), (1, 20), (-3, 3), (1, 10 ** 12), (10 ** 30, 10 ** 30)):
            with self.subTest(least=least, most=most):
                self.assertIs(is_among(least, least, most), True)
                self.assertIs(is_among(most, least, most), True)
                self.assertIs(is_among((least + most) // 2, least, most), True)
                self.assertIs(is_among(least - 1, least, most), False)
                self.assertIs(is_among(most + 1, least, most), False)

    def test_none_is_among_bounds_without_room(self):
        for number in (-1, 0, 1, 2):
            self.assertIs(is_among(number, 1, 0), False)

    def test_very_great_numbers(self):
        self.assertIs(is_among(10 ** 9000, 0, 10 ** 12), False)
        self.assertIs(is_among(-10 ** 9000, 0, 10 ** 12), False)

    def test_truths_are_no_whole_numbers(self):
        for truth in (True, False):
            self.assertIs(is_among(truth, 0, 1), False)
            self.assertIs(is_among(truth, -5, 5), False)

    def test_of_anything(self):
        for thing in no_numbers():
            with self.subTest(repr(thing)):
                self.assertIs(is_among(thing, -10 ** 12, 10 ** 12), False)


class Numbers(unittest.TestCase):
    def assert_number(self, word, number):
        with self.subTest(word):
            self.assertEqual(number_of(word), number)
            self.assertIs(number_of(word).__class__, int)

    def test_numbers(self):
        for number in (0, 1, 2, 9, 10, 11, 99, 100, 101, 907, 123456789, 10 ** 11, 10 ** 12 - 1, 10 ** 12):
            self.assert_number(str(number), number)

    def test_every_figure(self):
        for number in range(1200):
            self.assert_number(str(number), number)

    def test_beyond_the_bounds(self):
        for word in ("-1", "-0", str(10 ** 12 + 1), "2000000000000", "9999999999999", str(10 ** 13), "9" * 10000):
            with self.subTest(word[:20]):
                self.assertIsNone(number_of(word))

    def test_a_nought_ahead(self):
        for word in ("00", "01", "007", "0000000000001", "01000000000000", "0" * 13, "0" * 5000):
            with self.subTest(word[:20]):
                self.assertIsNone(number_of(word))

    def test_other_signs(self):
        words = ["", " ", "+1", " 1", "1 ", "1 2", "1_0", "1.0", "1e3", "0x1", "a", "1a", "a1", "1\n", "\t1",
                 "-", "one", "1,000", "--1", "0b1", "1/2", ":", "1:"]
        for word in words:
            with self.subTest(word):
                self.assertIsNone(number_of(word))

    def test_of_anything(self):
        for thing in no_texts() + [0, 1, 5, -1, 10 ** 12, 10 ** 9000]:
            with self.subTest(thing.__class__):
                self.assertIsNone(number_of(thing))


class Lines(unittest.TestCase):
    def test_words_with_one_blank_between(self):
        for words in (["turn"], ["give", "x", "a"], ["give", "x", "a", "0"], ["crane", "01"], ["-", "~", "!"]):
            with self.subTest(words):
                self.assertEqual(words_of(" ".join(words)), words)
        self.assertEqual(words_of("a\tb c"), ["a\tb", "c"])

    def test_no_lines(self):
        for line in ("", " ", "  ", " a", "a ", "a  b", "a   b", "\n", "a\n", "\na", "a\nb", "a b\n", "a \nb"):
            with self.subTest(line):
                self.assertEqual(words_of(line), [])

    def test_of_anything(self):
        for thing in no_texts() + [0, 1]:
            with self.subTest(repr(thing)):
                self.assertEqual(words_of(thing), [])


if __name__ == "__main__":
    unittest.main()
