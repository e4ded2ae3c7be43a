"""[12.1]: texts of machines."""

import re
import unittest
from math import gcd

from farbetween import errors
from farbetween.machines import Machine
from farbetween.shares import Share
from farbetween.texts import read, show
from tests.helper import FORTY, Dice, anything, plain, some_machine


def digits(number):
    """A number by figures, by halves, of any size."""
    if number < 10 ** 4000:
        return str(number)
    half = len(bin(number)) * 3 // 20
    high, low = divmod(number, 10 ** half)
    return digits(high) + digits(low).rjust(half, "0")


def first_wrong(text):
    """The number of the first word of a machine's text that isn't such as it should be; None where all are."""
    words = text.split(" ")
    if not re.fullmatch("[1-9]|1[012]", words[0]):
        return 0
    many = int(words[0])
    last = (-1, "")
    for start in range(1, len(words), 3 + many):
        patterns = ["/", "0|[1-9][0-9]{0,99}", "[a-z]{1,8}"] + ["0|[1-9][0-9]{0,99}"] * many
        for at, pattern in enumerate(patterns):
            if start + at == len(words):
                return len(words)
            if not re.fullmatch(pattern, words[start + at]) or at == 1 and int(words[start + 1]) >= many:
                return start + at
        step = (int(words[start + 1]), words[start + 2])
        if step <= last or gcd(*map(int, words[start + 3:start + 3 + many])) != 1:
            return start + 2 + many
        last = step
    return None


class Show(unittest.TestCase):

    def back_and_forth(self, whole, text):
        before = plain(whole)
        told = show(whole)
        self.assertEqual(plain(whole), before)
        self.assertEqual(told, text)
        self.assertIs(type(told), str)
        again = read(text)
        self.assertIs(type(again), Machine)
        self.assertEqual(again, whole)

    def test_written_out(self):
        for whole, text in [
            (Machine(2, [(0, "a", (1, 3))]), "2 / 0 a 1 3"), (Machine(1, []), "1"), (Machine(12, []), "12"),
            (Machine(1, [(0, "abcdefgh", (7,))]), "1 / 0 abcdefgh 1"), (Machine(2, [(1, "a", (0, 5)), (0, "b", (4, 2))]), "2 / 0 b 2 1 / 1 a 0 1"),
            (Machine(3, [(2, "b", (0, 0, 1)), (2, "a", (10, 0, 100)), (0, "ab", (1, 1, 1))]), "3 / 0 ab 1 1 1 / 2 a 1 0 10 / 2 b 0 0 1"),
        ]:
            self.back_and_forth(whole, text)

    def test_twelve_rooms(self):
        whole = Machine(12, [(11, "a", tuple(range(12))), (10, "a", tuple(range(1, 13))), (9, "b", (1,) * 12)])
        self.back_and_forth(
            whole, "12 / 9 b 1 1 1 1 1 1 1 1 1 1 1 1 / 10 a 1 2 3 4 5 6 7 8 9 10 11 12 / 11 a 0 1 2 3 4 5 6 7 8 9 10 11"
        )

    def test_by_dice(self):
        dice = Dice(1201)
        for turn in range(100):
            whole = some_machine(dice, dice.between(1, 12), ["a", "b", "ab", "ba"], dice.one_of([1, 9, 10 ** 12, 10 ** 98]))
            text = show(whole)
            self.assertIsNone(first_wrong(text))
            self.back_and_forth(whole, text)

    def test_weights_of_a_hundred_figures_and_of_a_hundred_and_one(self):
        text = "2 / 0 a 1 " + "9" * 100
        self.back_and_forth(Machine(2, [(0, "a", (1, 10 ** 100 - 1))]), text)
        text = "2 / 0 a 1 1" + "0" * 99
        self.back_and_forth(Machine(2, [(0, "a", (1, 10 ** 99))]), text)
        whole = Machine(2, [(0, "a", (1, 10 ** 100))])
        self.assertEqual(show(whole), "2 / 0 a 1 1" + "0" * 100)
        with self.assertRaises(errors.NoText) as caught:
            read(show(whole))
        self.assertEqual(caught.exception.at, 5)

    def test_weights_of_thousands_of_figures(self):
        for long in [101, 4299, 4300, 4301, 5000, 12345]:
            for number in [10 ** long, 10 ** long - 1, 10 ** long + 1, 10 ** (long - 1) + 10 ** 70, 7 ** long]:
                told = show(Machine(2, [(0, "a", (1, number)), (1, "b", (number, number + 1))]))
                self.assertEqual(told, f"2 / 0 a 1 {digits(number)} / 1 b {digits(number)} {digits(number + 1)}")

    def test_noughts_within_long_numbers(self):
        for power in [63, 64, 65, 127, 128, 129, 192]:
            for more in [0, 1, 10 ** 63, 10 ** 64]:
                number = 10 ** power + more
                self.assertEqual(show(Machine(2, [(0, "a", (1, number))])), f"2 / 0 a 1 {number}")


class NoTexts(unittest.TestCase):

    def refuse(self, text, at):
        with self.assertRaises(errors.FarError, msg=text) as caught:
            read(text)
        self.assertIs(type(caught.exception), errors.NoText)
        self.assertEqual(caught.exception.at, at, text)
        self.assertIs(type(caught.exception.at), type(at))

    def test_what_is_no_text(self):
        for thing in anything() + [0, 1, FORTY, ("1",), ["1"], b"1", Share(1), Machine(2, [])]:
            if not isinstance(thing, str):
                before = plain(thing)
                self.refuse(thing, None)
                self.assertEqual(plain(thing), before)

    def test_the_first_word(self):
        for word in ["0", "13", "00", "01", "012", "1.0", "-1", "+1", "a", "/", "", "one", "100", "9" * 101, "9" * 5000, "1_0", "0x1", "1/2", "1,"]:
            self.refuse(word, 0)
            self.refuse(f"{word} / 0 a 1", 0)

    def test_blanks(self):
        for text, at in [
            ("", 0), (" ", 0), (" 1", 0), ("1 ", 1), ("1  ", 1), ("2 / 0 a 1 3 ", 6), ("2  / 0 a 1 3", 1), ("2 /  0 a 1 3", 2), ("2 / 0  a 1 3", 3),
            ("2 / 0 a  1 3", 4), ("2 / 0 a 1  3", 5), ("2 / 0 a 1 3  / 1 a 1 3", 6), ("2 ", 1),
        ]:
            self.refuse(text, at)

    def test_words_left_off(self):
        text = "2 / 0 a 1 3 / 1 b 0 1"
        words = text.split(" ")
        for many in range(1, len(words)):
            if many in [1, 6]:
                self.assertEqual(len(read(" ".join(words[:many])).steps), many // 6)
            else:
                self.refuse(" ".join(words[:many]), many)
        self.refuse("12 / 0 a" + " 1" * 11, 15)
        self.refuse("1 / 0 a", 4)
        self.refuse("1 /", 2)

    def test_each_word_amiss(self):
        words = "2 / 0 a 1 3 / 1 b 0 1".split(" ")
        for turn, kinds in [
            (1, ["|", "//", "0", "a", "", "\\", "/ "]), (2, ["2", "3", "12", "00", "01", "-1", "a", "", "/", "+0", "9" * 101, "9" * 5000, "1.0"]),
            (3, ["A", "aB", "abcdefghi", "", "1", "/", "-", "a1", "a,b"]),
            (4, ["01", "00", "-1", "+1", "a", "", "/", "1.0", "1" + "0" * 100, "9" * 101, "9" * 5000, "1/2", "0x1", "1_0", "1e3"]),
            (5, ["01", "00", "-1", "a", "", "/", "1" + "0" * 100, "0" * 101]),
        ]:
            for word in kinds:
                for at in [turn, turn + 5]:
                    spoilt = list(words)
                    spoilt[at] = word
                    if " " not in word:
                        self.refuse(" ".join(spoilt), at)

    def test_all_weights_nought(self):
        self.refuse("2 / 0 a 0 0", 5)
        self.refuse("1 / 0 a 0", 4)
        self.refuse("3 / 0 a 1 0 0 / 1 a 0 0 0 / 2 a 1 1 1", 12)

    def test_weights_that_a_number_divides(self):
        for text, at in [
            ("2 / 0 a 2 4", 5), ("2 / 0 a 0 2", 5), ("2 / 0 a 3 0", 5), ("1 / 0 a 2", 4), ("3 / 0 a 6 10 4", 6), ("2 / 0 a 1 2 / 1 a 5 10", 10),
            ("2 / 0 a " + "3" * 100 + " " + "6" * 100, 5),
        ]:
            self.refuse(text, at)
        self.assertEqual(read("3 / 0 a 6 10 15").steps, [(0, "a", (6, 10, 15))])

    def test_steps_that_are_not_behind_one_another(self):
        for text, at in [
            ("2 / 0 a 1 1 / 0 a 1 1", 10), ("2 / 0 a 1 1 / 0 a 1 2", 10), ("2 / 0 b 1 1 / 0 a 1 1", 10), ("2 / 1 a 1 1 / 0 a 1 1", 10),
            ("2 / 1 a 1 1 / 0 b 1 1", 10), ("2 / 0 a 1 1 / 0 b 1 1 / 0 ab 1 1", 15), ("2 / 0 aa 1 1 / 0 a 1 1", 10), ("2 / 0 a 1 1 / 1 a 1 1 / 0 b 1 1", 15),
        ]:
            self.refuse(text, at)
        read("2 / 0 a 1 1 / 0 aa 1 1 / 0 b 1 1 / 1 a 1 1")

    def test_the_first_word_amiss_counts(self):
        self.refuse("2 / 0 a 0 0 / 5 A 1", 5)
        self.refuse("2 / 0 a 0 x", 5)
        self.refuse("2 / 0 a 2 2 x", 5)
        self.refuse("2 / 0 b 1 1 / 0 a 1 01", 10)
        self.refuse("2 / 0 b 1 1 / 0 a 1", 10)
        self.refuse("13 / 0 a", 0)

    def test_spoilt_by_dice(self):
        dice = Dice(1211)
        spoilers = ["/", "0", "1", "2", "3", "12", "13", "a", "b", "A", "", "00", "01", "-1", "9" * 100, "9" * 101, "abcdefghi"]
        refused = 0
        for turn in range(1500):
            words = show(some_machine(dice, dice.between(1, 4), "ab", 4, 30)).split(" ")
            at = dice.below(len(words))
            way = dice.below(6)
            if way == 0:
                words.pop(at)
            elif way == 1:
                words.insert(at, words[at])
            elif way == 2:
                other = dice.below(len(words))
                words[at], words[other] = words[other], words[at]
            elif way == 3:
                words.insert(dice.between(0, len(words)), dice.one_of(spoilers))
            elif way == 4:
                words[at] = dice.one_of(spoilers)
            else:
                words = words[:at]
            text = " ".join(words)
            if first_wrong(text) is None:
                self.assertEqual(show(read(text)), text)
            else:
                refused += 1
                self.refuse(text, first_wrong(text))
        self.assertGreater(refused, 900)


if __name__ == "__main__":
    unittest.main()
