"""[8.1] and [8.2]: chances of words, and the word that tells two machines apart most."""

import itertools
import unittest
from fractions import Fraction

from farbetween import errors
from farbetween.apart import distance
from farbetween.machines import Machine
from farbetween.shares import Share
from farbetween.words import chance, chances, farthest_word
from tests.helper import (
    FORTY, Dice, anything, lists_in, machine, no_fades, no_signs, number, numbers, plain, plain_machine, shares, some_machine,
    steps_by_sign
)

HALF = Share(1, 2)
FADES = [HALF, Share(1, 3), Share(7, 8), Share(1, FORTY), Share(FORTY - 1, FORTY)]
COIN = machine("3 / 0 a 1 1 2 / 0 b 0 0 1 / 1 a 1 0 0")


def walked(whole, word, start=0):
    """How often a word can be done from a room, walking ahead room by room, in Fractions."""
    doors = steps_by_sign(whole)
    here = {start: Fraction(1)}
    for sign in word:
        there = {}
        for room, often in here.items():
            for to, part in enumerate(doors[room].get(sign, [])):
                there[to] = there.get(to, Fraction(0)) + often * part
        here = there
    return sum(here.values(), Fraction(0))


class Chances(unittest.TestCase):

    def ask(self, whole, word):
        """What chances tells, in Fractions; chance tells the first of it."""
        before = plain((whole, word))
        told = chances(whole, word)
        first = chance(whole, word)
        self.assertEqual(plain((whole, word)), before)
        self.assertIs(type(told), list)
        self.assertIsNot(told, word)
        self.assertTrue(all(type(share) is Share for share in told))
        self.assertIs(type(first), Share)
        self.assertEqual(first, told[0])
        for share in told + [first]:
            self.assertEqual(plain(share), plain(Share(share.top, share.bottom)), "in lowest terms")
        return numbers(told)

    def test_the_word_without_signs(self):
        dice = Dice(801)
        for many in range(1, 13):
            self.assertEqual(self.ask(some_machine(dice, many, "ab"), []), [1] * many)
            self.assertEqual(self.ask(Machine(many, []), []), [1] * many)

    def test_written_out(self):
        for word, told in [
            ("a", "1 1 0"), ("b", "1 0 0"), ("c", "0 0 0"), ("aa", "1/2 1 0"), ("ab", "1/4 1 0"), ("ba", "0 0 0"),
            ("aaa", "3/8 1/2 0"), ("aab", "5/16 1/4 0"), ("bb", "0 0 0"),
        ]:
            self.assertEqual(chances(COIN, list(word)), shares(told))
            self.assertEqual(chance(COIN, list(word)), shares(told)[0])

    def test_words_of_one_sign(self):
        dice = Dice(802)
        for turn in range(20):
            whole = some_machine(dice, dice.between(1, 12), "abc")
            for sign in ["a", "b", "c", "d", "abc", "abcdefgh"]:
                self.assertEqual(self.ask(whole, [sign]), [int(sign in door) for door in steps_by_sign(whole)])

    def test_signs_that_the_machine_has_not(self):
        whole = machine("1 / 0 a 1")
        self.assertEqual(self.ask(whole, ["a", "b"]), [0])
        self.assertEqual(self.ask(whole, ["b", "a"]), [0])
        self.assertEqual(self.ask(whole, ["a", "a", "aa"]), [0])
        self.assertEqual(self.ask(whole, ["a"] * 7), [1])

    def test_rooms_that_cannot_go_on(self):
        self.assertEqual(self.ask(Machine(3, []), ["a"]), [0, 0, 0])
        self.assertEqual(self.ask(machine("2 / 0 a 0 1"), ["a"]), [1, 0])
        self.assertEqual(self.ask(machine("2 / 0 a 0 1"), ["a", "a"]), [0, 0])

    def test_rooms_that_cannot_be_come_to(self):
        self.assertEqual(self.ask(machine("3 / 0 a 1 0 0 / 1 a 1 1 1 / 1 b 1 1 1"), ["a", "a"]), [1, Fraction(2, 3), 0])
        self.assertEqual(self.ask(machine("3 / 0 a 1 0 0 / 1 a 1 1 1 / 1 b 1 1 1"), ["b", "b"]), [0, Fraction(1, 3), 0])

    def test_against_a_walk(self):
        dice = Dice(803)
        for turn in range(60):
            whole = some_machine(dice, dice.between(1, 12), "abc", dice.one_of([1, 9, 1000]), 40, dice.one_of([5, 25]))
            word = [dice.one_of(["a", "b", "c"]) for sign in range(dice.between(0, 9))]
            self.assertEqual(self.ask(whole, word), [walked(whole, word, room) for room in range(whole.many)])

    def test_words_of_three_hundred_signs(self):
        self.assertEqual(self.ask(machine("2 / 0 a 1 1"), ["a"] * 300), [Fraction(1, 2 ** 299), 0])
        self.assertEqual(self.ask(machine("2 / 0 a 2 1 / 1 a 1 6"), ["a"] * 300), [1, 1])
        dice = Dice(804)
        for signs in ["ab", "abc"]:
            whole = some_machine(dice, 4, signs, 9, 30, 10)
            word = [dice.one_of(signs) for sign in range(300)]
            self.assertEqual(self.ask(whole, word), [walked(whole, word, room) for room in range(4)])
        whole = some_machine(dice, 12, "ab", 9, 30, 0)
        self.assertEqual(self.ask(whole, ["a", "b", "b"] * 100), [1] * 12)

    def test_weights_of_great_size(self):
        whole = Machine(2, [(0, "a", (FORTY, 1)), (1, "b", (1, FORTY ** 50))])
        self.assertEqual(self.ask(whole, ["a", "b"]), [Fraction(1, FORTY + 1), 0])
        self.assertEqual(self.ask(whole, ["a", "a", "a"]), [Fraction(FORTY, FORTY + 1) ** 2, 0])
        for word in [["a", "a", "b", "b"], ["a", "b", "a"], ["b", "b", "a", "a"]]:
            self.assertEqual(self.ask(whole, word), [walked(whole, word, room) for room in range(2)])
        dice = Dice(805)
        whole = some_machine(dice, 6, "ab", 10 ** 100, 20, 10)
        word = [dice.one_of("ab") for sign in range(12)]
        self.assertEqual(self.ask(whole, word), [walked(whole, word, room) for room in range(6)])

    def test_changed_by_the_caller_the_same_is_told(self):
        word = ["a", "a"]
        told = chances(COIN, word)
        before = plain(told)
        told.append(None)
        told[0] = None
        self.assertEqual(plain(chances(COIN, word)), before)

    def refuse(self, sign, whole, word):
        before = plain(word)
        for asked in [chance, chances]:
            with self.assertRaises(errors.FarError) as caught:
                asked(whole, word)
            self.assertIs(type(caught.exception), errors.NoSign)
            self.assertIs(caught.exception.sign, sign)
        self.assertEqual(plain(word), before)

    def test_no_sign(self):
        for thing in no_signs():
            for word in [[thing], ["a", thing], ["a", "c", thing, "b"], [thing, "a", None], ["b", thing, "A", thing]]:
                self.refuse(thing, COIN, word)
                self.refuse(thing, Machine(1, []), word)

    def test_the_first_of_several(self):
        self.refuse("B", COIN, ["a", "B", "A", None])
        self.refuse(None, COIN, [None, "A"])


def by_all_words(fade, one, other, long):
    """The tuple that farthest_word should tell, in Fractions, all words gone through."""
    signs = sorted({sign for whole in [one, other] for room, sign, weights in whole.steps})
    best = (Fraction(0), [])
    for length in range(long + 1):
        for word in itertools.product(signs, repeat=length):
            told = number(fade) ** length * abs(walked(one, word) - walked(other, word))
            if told > best[0]:
                best = (told, list(word))
    return best


class Farthest(unittest.TestCase):

    def ask(self, fade, one, other, long):
        before = plain((fade, one, other, long))
        told = farthest_word(fade, one, other, long)
        self.assertEqual(plain((fade, one, other, long)), before)
        self.assertIs(type(told), tuple)
        far, word = told
        self.assertIs(type(far), Share)
        self.assertIs(type(word), list)
        self.assertTrue(all(type(sign) is str for sign in word))
        return number(far), word

    def test_written_out(self):
        one, other = machine("2 / 0 a 1 1"), machine("2 / 0 a 1 3")
        self.assertEqual(self.ask(HALF, one, other, 0), (0, []))
        self.assertEqual(self.ask(HALF, one, other, 1), (0, []))
        self.assertEqual(self.ask(HALF, one, other, 2), (Fraction(1, 16), ["a", "a"]))
        self.assertEqual(self.ask(Share(7, 8), one, other, 2), (Fraction(49, 256), ["a", "a"]))
        self.assertEqual(self.ask(Share(7, 8), one, other, 3), (Fraction(49, 256), ["a", "a"]))
        self.assertEqual(self.ask(HALF, machine("1"), machine("1 / 0 b 1"), 6), (Fraction(1, 2), ["b"]))

    def test_of_several_the_shortest_then_the_least(self):
        one, other = machine("1 / 0 a 1 / 0 b 1 / 0 ab 1"), machine("1")
        for long in range(1, 7):
            self.assertEqual(self.ask(HALF, one, other, long), (Fraction(1, 2), ["a"]))
            self.assertEqual(self.ask(HALF, other, one, long), (Fraction(1, 2), ["a"]))
        one = machine("3 / 0 ab 0 1 0 / 0 b 0 1 0 / 1 b 0 0 1 / 1 a 0 0 1")
        other = machine("3 / 0 ab 0 1 0 / 0 b 0 1 0")
        self.assertEqual(self.ask(HALF, one, other, 2), (Fraction(1, 4), ["ab", "a"]))
        one = machine("2 / 0 z 0 1 / 0 a 0 1 / 1 a 0 1 / 1 z 0 1")
        other = machine("2 / 0 z 0 1 / 0 a 0 1 / 1 z 0 1")
        self.assertEqual(self.ask(HALF, one, other, 3), (Fraction(1, 4), ["a", "a"]))
        self.assertEqual(self.ask(HALF, one, machine("2 / 0 z 0 1 / 0 a 0 1 / 1 a 0 1"), 3), (Fraction(1, 4), ["a", "z"]))

    def test_a_longer_word_that_is_as_far_is_not_told(self):
        """Half as often by one sign; then, by a fade of 1/2, a word of two signs that differs by twice as much."""
        one = machine("4 / 0 a 0 1 0 0 / 1 a 0 0 0 1 / 0 b 0 0 1 0")
        other = machine("4 / 0 a 0 0 1 0 / 0 b 0 0 1 0")
        self.assertEqual(self.ask(HALF, one, other, 6), (Fraction(1, 4), ["a", "a"]))
        one = machine("5 / 0 a 0 1 1 0 0 / 1 b 0 0 0 1 0 / 2 b 0 0 0 0 1 / 3 b 0 0 0 1 0 / 4 b 0 0 0 0 1")
        other = machine("5 / 0 a 0 1 1 0 0 / 1 b 0 0 0 1 0")
        self.assertEqual(self.ask(HALF, one, other, 6), by_all_words(HALF, one, other, 6))
        self.assertEqual(self.ask(HALF, one, other, 6), (Fraction(1, 8), ["a", "b"]))

    def test_by_all_words(self):
        dice = Dice(811)
        for turn in range(30):
            signs, most = dice.one_of([("a", 6), ("ab", 6), (["b", "ab"], 6), ("abc", 3), (["c", "aa", "a"], 3)])
            size, missing = dice.one_of([1, 4, 1000]), dice.one_of([5, 20, 40])
            one = some_machine(dice, dice.between(1, 4), signs, size, 40, missing)
            other = some_machine(dice, dice.between(1, 4), signs, size, 40, missing)
            fade = dice.one_of(FADES)
            for long in range(most + 1):
                self.assertEqual(self.ask(fade, one, other, long), by_all_words(fade, one, other, long))

    def test_by_all_words_without_chance(self):
        dice = Dice(812)
        for turn in range(30):
            one, other = plain_machine(dice, 4, "ab", 15), plain_machine(dice, 3, "ab", 15)
            for long in [0, 1, 3, 6]:
                self.assertEqual(self.ask(Share(7, 8), one, other, long), by_all_words(Share(7, 8), one, other, long))

    def test_long_words_tell_most(self):
        chain = Machine(7, [(at, "a", tuple(int(to == at + 1) for to in range(7))) for at in range(6)])
        ring = machine("1 / 0 a 1")
        for long in range(7):
            self.assertEqual(self.ask(HALF, Machine(6, [
                (room, sign, weights[:6]) for room, sign, weights in chain.steps if room < 5
            ]), ring, long), (Fraction(1, 64), ["a"] * 6) if long == 6 else (0, []))
            self.assertEqual(self.ask(HALF, chain, ring, long), (0, []))

    def test_never_farther_than_they_are(self):
        dice = Dice(813)
        for turn in range(25):
            signs = dice.one_of(["a", "ab", "abc"])
            one, other = some_machine(dice, dice.between(1, 5), signs, 5), some_machine(dice, dice.between(1, 5), signs, 5)
            fade = dice.one_of(FADES)
            self.assertLessEqual(self.ask(fade, one, other, 5)[0], number(distance(fade, one, other)))

    def test_signs_that_stand_only_at_rooms_that_cannot_be_come_to(self):
        one = machine("3 / 0 a 0 1 0 / 2 b 1 1 1 / 2 c 1 1 1")
        other = machine("3 / 0 a 1 0 0 / 2 d 1 1 1")
        with self.assertRaises(errors.TooMany):
            farthest_word(HALF, one, other, 0)
        other = machine("3 / 0 a 1 0 0 / 2 c 1 1 1")
        for long in range(7):
            self.assertEqual(self.ask(HALF, one, other, long), by_all_words(HALF, one, other, long))

    def test_a_machine_and_itself(self):
        dice = Dice(814)
        for turn in range(10):
            one = some_machine(dice, dice.between(1, 6), "abc")
            self.assertEqual(self.ask(dice.one_of(FADES), one, one, dice.between(0, 6)), (0, []))

    def test_without_steps(self):
        for long in range(7):
            self.assertEqual(self.ask(HALF, Machine(2, []), Machine(5, []), long), (0, []))

    def test_great_machines_and_weights(self):
        dice = Dice(815)
        for size in [9, 10 ** 40]:
            one, other = some_machine(dice, 12, "abc", size, 20, 3), some_machine(dice, 12, "abc", size, 20, 3)
            far, word = self.ask(HALF, one, other, 6)
            self.assertEqual(far, Fraction(1, 2 ** len(word)) * abs(walked(one, word) - walked(other, word)))
            self.assertGreaterEqual(far, by_all_words(HALF, one, other, 3)[0])

    def test_changed_by_the_caller_the_same_is_told(self):
        one, other = machine("2 / 0 a 1 1"), machine("2 / 0 a 1 3")
        for long in range(3):
            far, word = farthest_word(HALF, one, other, long)
            before = list(word)
            word.append(None)
            self.assertEqual(farthest_word(HALF, one, other, long), (far, before))


class FarthestRefused(unittest.TestCase):

    def setUp(self):
        self.one, self.other = machine("2 / 0 a 1 1 / 0 b 1 0"), machine("2 / 0 c 1 3")
        self.four = machine("2 / 0 a 1 1 / 1 d 1 1")

    def refuse(self, refusal, *handed):
        before = plain(handed)
        with self.assertRaises(errors.FarError) as caught:
            farthest_word(*handed)
        self.assertIs(type(caught.exception), refusal)
        self.assertEqual(plain(handed), before)

    def test_no_fade(self):
        for fade in no_fades():
            for long in [0, 6, 7, None]:
                self.refuse(errors.NoFade, fade, self.one, self.other, long)
        self.refuse(errors.NoFade, Share(1), self.four, machine("1 / 0 e 1 / 0 f 1"), 7)

    def test_no_depth(self):
        for long in anything() + [-1, 7, 8, -6, FORTY, Share(0), Share(1), Share(3), "3", (3,), [3]]:
            self.refuse(errors.NoDepth, HALF, self.one, self.other, long)
            self.refuse(errors.NoDepth, HALF, self.four, machine("1 / 0 e 1 / 0 f 1"), long)

    def test_too_many(self):
        for long in [0, 1, 6]:
            self.refuse(errors.TooMany, HALF, machine("2 / 0 a 1 1 / 0 b 1 0"), machine("1 / 0 c 1 / 0 d 1"), long)
            self.refuse(errors.TooMany, HALF, machine("2 / 1 a 1 1 / 1 b 1 0"), machine("2 / 1 c 1 1 / 1 d 1 1"), long)
            self.refuse(errors.TooMany, HALF, machine("1"), machine("1 / 0 a 1 / 0 b 1 / 0 c 1 / 0 d 1"), long)
            self.refuse(errors.TooMany, HALF, machine("1 / 0 a 1 / 0 b 1 / 0 c 1 / 0 d 1"), machine("1"), long)

    def test_three_signs_are_told(self):
        for long in range(7):
            farthest_word(HALF, self.one, self.other, long)
            farthest_word(HALF, machine("1 / 0 a 1 / 0 b 1 / 0 c 1"), machine("1 / 0 a 1 / 0 b 1 / 0 c 1"), long)


if __name__ == "__main__":
    unittest.main()
