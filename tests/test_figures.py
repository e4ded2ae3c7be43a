"""Whole numbers by figures, of any size, and shares and lists as words: what the texts and the desk stand on."""

import unittest

from farbetween.figures import are_figures, number_in, written
from farbetween.shares import Share
from farbetween.spelling import pairs_in, pairs_written, share_in, signs_in, signs_written
from tests.helper import Dice


class Figures(unittest.TestCase):

    def test_written(self):
        dice = Dice(1221)
        for length in [1, 2, 63, 64, 65, 127, 128, 129, 640, 4299]:
            for number in [10 ** length - 1, 10 ** length, dice.below(10 ** length), 10 ** length + dice.below(10 ** (length // 2))]:
                if number < 10 ** 4299:
                    self.assertEqual(written(number), str(number))
                    self.assertEqual(written(-number), str(-number))
        self.assertEqual(written(0), "0")

    def test_longer_than_python_writes(self):
        for length in [4300, 4301, 5000, 20000]:
            self.assertEqual(written(10 ** length), "1" + "0" * length)
            self.assertEqual(written(10 ** length - 1), "9" * length)
            self.assertEqual(written(-(10 ** length) // 9), "-" + "1" * (length - 1) + "2")

    def test_long_shares(self):
        long = 10 ** 5000
        self.assertEqual(str(Share(long + 1, long)), "1" + "0" * 4999 + "1/1" + "0" * 5000)
        self.assertEqual(str(Share(-long)), "-1" + "0" * 5000)

    def test_read(self):
        for word, most, number in [("0", 1, 0), ("9", 1, 9), ("10", 2, 10), ("999999999", 9, 999999999), ("1" + "0" * 99, 100, 10 ** 99)]:
            self.assertTrue(are_figures(word, most))
            self.assertEqual(number_in(word, most), number)
        for word, most in [
            ("", 9), ("00", 9), ("01", 9), ("-1", 9), ("+1", 9), (" 1", 9), ("1 ", 9), ("1_0", 9), ("1.0", 9), ("a", 9), ("10", 1),
            ("1000000000", 9), ("9" * 5000, 100), ("/", 9), ("1/2", 9),
        ]:
            self.assertFalse(are_figures(word, most))
            self.assertIsNone(number_in(word, most))


class Spelled(unittest.TestCase):

    def test_shares(self):
        for word, share in [
            ("0", Share(0)), ("1", Share(1)), ("1/2", Share(1, 2)), ("999999998/999999999", Share(999999998, 999999999)),
            ("1/999999999", Share(1, 999999999)),
        ]:
            self.assertEqual(share_in(word, 9), share)
        for word in [
            "", "-", "2", "3/2", "2/4", "0/1", "1/1", "0/2", "1/0", "0/0", "01", "1/02", "00", "-1", "-1/2", "1/-2", "+1", "1/", "/2", "/",
            "1/2/3", "1//2", "a", "1 /2", "0.5", "1/1000000000", "1000000000/1000000001", "1/" + "9" * 5000,
        ]:
            self.assertIsNone(share_in(word, 9), word)

    def test_signs(self):
        for word, signs in [("-", ()), ("a", ("a",)), ("a,b", ("a", "b")), ("b,a,b", ("b", "a", "b")), ("abcdefgh,stop", ("abcdefgh", "stop"))]:
            self.assertEqual(signs_in(word), signs)
            self.assertEqual(signs_written(signs), word)
        for word in ["", ",", "a,", ",a", "a,,b", "-,a", "A", "abcdefghi", "a>b", "a;b", "1", "--", "a b"]:
            self.assertIsNone(signs_in(word), word)

    def test_pairs(self):
        for word, pairs in [("-", ()), ("a>b", (("a", "b"),)), ("a>b,b>a", (("a", "b"), ("b", "a"))), ("a>a", (("a", "a"),))]:
            self.assertEqual(pairs_in(word), pairs)
            self.assertEqual(pairs_written(pairs), word)
        for word in ["", ",", ">", "a", "a>", ">a", "a>b>c", "a>>b", "a>b,", ",a>b", "a>b,c", "A>b", "a>B", "->a", "a>-", "abcdefghi>a", "a<b"]:
            self.assertIsNone(pairs_in(word), word)


if __name__ == "__main__":
    unittest.main()
