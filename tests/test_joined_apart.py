"""[9.6] and [0.2]: machines that are joined in the same way are no farther apart than the joining lets them be."""

import unittest

from farbetween import errors
from farbetween.apart import distance
from farbetween.joinings import ahead, beside, only, rename, stop, toss
from farbetween.machines import Machine
from farbetween.sayings import deep, telling, worth
from farbetween.shares import Share, minus
from farbetween.words import farthest_word
from tests.helper import Dice, machine, number, some_machine, split_machine
from tests.test_sayings import some_book

FADES = [Share(1, 2), Share(1, 3), Share(7, 8), Share(99, 100)]


def near_machines(dice, many, signs):
    """Two machines of so many rooms and the same steps, but for the weights of some."""
    one = some_machine(dice, many, signs, 9, 50, 15)
    steps = []
    for room, sign, weights in one.steps:
        more = [weight + (dice.below(3) if dice.below(3) == 0 else 0) for weight in weights]
        steps.append((room, sign, tuple(more)))
    return one, Machine(many, steps)


def pairs_of_machines(dice):
    """Machines of at most three rooms: nearly alike ones, alike ones and any."""
    many = dice.between(1, 3)
    yield near_machines(dice, many, "ab")
    yield near_machines(dice, 3, "abc")
    one = some_machine(dice, 2, "ab", 5)
    yield one, split_machine(dice, one, 3)
    yield some_machine(dice, many, "ab", 5), some_machine(dice, dice.between(1, 3), "ab", 5)


class Joined(unittest.TestCase):

    def far(self, fade, one, other):
        """How far apart both are; None where that would be too many pairs of rooms."""
        try:
            return number(distance(fade, one, other))
        except errors.TooMany:
            return None

    def each(self, seed, turns=12):
        dice = Dice(seed)
        for turn in range(turns):
            for one, other in pairs_of_machines(dice):
                fade = dice.one_of(FADES)
                yield dice, fade, one, other, self.far(fade, one, other)

    def test_a_sign_put_ahead(self):
        for dice, fade, one, other, far in self.each(961):
            sign = dice.one_of("abz")
            self.assertEqual(self.far(fade, ahead(sign, one), ahead(sign, other)), number(fade) * far)

    def test_tossed(self):
        looked = 0
        for dice, fade, one, other, far in self.each(962):
            third, sign = some_machine(dice, dice.between(1, 3), "ab", 5), dice.one_of("abz")
            left, right = dice.between(1, 1000), dice.between(1, 9)
            for told, most in [
                (self.far(fade, toss(sign, (left, right), one, third), toss(sign, (left, right), other, third)), Share(left, left + right)),
                (self.far(fade, toss(sign, (left, right), third, one), toss(sign, (left, right), third, other)), Share(right, left + right)),
            ]:
                if told is not None:
                    looked += 1
                    self.assertLessEqual(told, number(fade) * number(most) * far)
        self.assertGreater(looked, 40)

    def test_tossed_with_a_third_one_that_stops(self):
        one, other = machine("1 / 0 a 1"), machine("1 / 0 b 1")
        for fade in FADES:
            told = self.far(fade, toss("c", (3, 1), one, stop()), toss("c", (3, 1), other, stop()))
            self.assertEqual(told, number(fade) * number(Share(3, 4)))
            told = self.far(fade, toss("c", (3, 1), stop(), one), toss("c", (3, 1), stop(), other))
            self.assertEqual(told, number(fade) * number(Share(1, 4)))

    def test_beside(self):
        looked = 0
        for dice, fade, one, other, far in self.each(963, 25):
            third = some_machine(dice, dice.between(1, 2), "abc", 4)
            shared = dice.mixed("abc")[:dice.between(0, 3)]
            for pair in [
                (beside(shared, one, third), beside(shared, other, third)), (beside(shared, third, one), beside(shared, third, other)),
            ]:
                told = self.far(fade, *pair)
                if told is not None:
                    looked += 1
                    self.assertLessEqual(told, far)
        self.assertGreater(looked, 100)

    def test_signs_left(self):
        for dice, fade, one, other, far in self.each(964):
            signs = dice.mixed("abc")[:dice.between(0, 3)]
            self.assertLessEqual(self.far(fade, only(signs, one), only(signs, other)), far)

    def test_renamed(self):
        for dice, fade, one, other, far in self.each(965):
            pairs = list(zip("abc", dice.mixed("abcd")))
            self.assertLessEqual(self.far(fade, rename(pairs, one), rename(pairs, other)), far)

    def test_no_saying_and_no_word_tells_them_farther_apart_than_they_are(self):
        for dice, fade, one, other, far in self.each(966):
            book = some_book(dice, 20, "abc")
            self.assertLessEqual(abs(number(minus(worth(book, fade, one), worth(book, fade, other)))), far)
            self.assertLessEqual(number(farthest_word(fade, one, other, 4)[0]), far)

    def test_to_each_depth_a_saying_is_told_that_comes_near(self):
        for dice, fade, one, other, far in self.each(967, 6):
            for depth in range(5):
                book = telling(fade, one, other, depth)
                told = number(minus(worth(book, fade, one), worth(book, fade, other)))
                self.assertLessEqual(deep(book), depth)
                self.assertTrue(far - number(fade) ** depth <= told <= far)


if __name__ == "__main__":
    unittest.main()
