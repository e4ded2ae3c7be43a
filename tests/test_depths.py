"""[5.1] and [5.2]: how far apart rooms are, to a depth."""

import unittest
from fractions import Fraction

from farbetween import errors
from farbetween.depths import apart_to
from farbetween.machines import Machine, menu
from farbetween.shares import Share
from tests.helper import (
    FORTY, Dice, anything, lists_in, machine, no_fades, number, numbers, one_deeper, plain, plain_machine, some_machine, table
)

HALF = Share(1, 2)
FADES = [HALF, Share(1, 3), Share(7, 8), Share(1, FORTY), Share(FORTY - 1, FORTY)]


def no_depths():
    return anything() + [-1, 13, 14, -12, 100, FORTY, -FORTY, Share(0), Share(1), Share(3), "3", (3,), [3]]


class Told(unittest.TestCase):

    def ask(self, fade, one, other, depth):
        """What is told, in Fractions, its form being looked at."""
        before = plain((fade, one, other, depth))
        told = apart_to(fade, one, other, depth)
        self.assertEqual(plain((fade, one, other, depth)), before)
        self.assertIs(type(told), list)
        self.assertEqual([(type(row), len(row)) for row in told], [(list, other.many)] * one.many)
        self.assertTrue(all(type(share) is Share for row in told for share in row))
        self.assertEqual(len({id(each) for each in lists_in(told)}), one.many + 1)
        self.assertFalse({id(each) for each in lists_in(told)} & {id(one.steps), id(other.steps)})
        return [numbers(row) for row in told]


class Depths(Told):

    def test_to_depth_nought(self):
        dice = Dice(61)
        for turn in range(10):
            one, other = some_machine(dice, dice.between(1, 12), "ab"), some_machine(dice, dice.between(1, 12), "ab")
            self.assertEqual(self.ask(dice.one_of(FADES), one, other, 0), [[0] * other.many] * one.many)

    def test_to_depth_one(self):
        dice = Dice(62)
        for turn in range(20):
            one, other = some_machine(dice, dice.between(1, 12), "abc"), some_machine(dice, dice.between(1, 12), "abc")
            menus = [[int(menu(one, x) != menu(other, y)) for y in range(other.many)] for x in range(one.many)]
            self.assertEqual(self.ask(dice.one_of(FADES), one, other, 1), menus)

    def test_written_out(self):
        one = machine("2 / 0 a 1 1")
        other = machine("2 / 0 a 1 3")
        for depth, told in [
            (0, "0 0; 0 0"), (1, "0 1; 1 0"), (2, "1/8 1; 1 0"), (3, "9/64 1; 1 0"), (4, "73/512 1; 1 0"),
        ]:
            self.assertEqual(apart_to(HALF, one, other, depth), table(told))

    def test_the_greatest_over_signs(self):
        one = machine("2 / 0 a 1 1 / 0 b 1 3")
        other = machine("2 / 0 a 1 1 / 0 b 3 1")
        self.assertEqual(self.ask(HALF, one, other, 2)[0][0], Fraction(1, 4))
        self.assertEqual(self.ask(HALF, other, one, 2)[0][0], Fraction(1, 4))
        one = machine("2 / 0 a 1 3 / 0 b 1 1")
        other = machine("2 / 0 a 3 1 / 0 b 1 1")
        self.assertEqual(self.ask(HALF, one, other, 2)[0][0], Fraction(1, 4))

    def test_a_menu_within_another(self):
        one, other = machine("1 / 0 a 1"), machine("2 / 0 a 1 0 / 0 b 1 1")
        for depth in range(1, 13):
            self.assertEqual(apart_to(HALF, one, other, depth), table("1 1"))
            self.assertEqual(apart_to(HALF, other, one, depth), table("1; 1"))

    def test_empty_menus(self):
        for depth in range(13):
            self.assertEqual(self.ask(HALF, Machine(3, []), Machine(2, []), depth), [[0, 0]] * 3)

    def test_machines_without_chance(self):
        """The fade to the power of how many signs it takes until menus differ, if this is less than the depth."""
        chain = "5 / 0 a 0 1 0 0 0 / 1 a 0 0 1 0 0 / 2 a 0 0 0 1 0 / 3 a 0 0 0 0 1"
        for fade in FADES:
            for depth in range(13):
                told = self.ask(fade, machine(chain), machine(chain), depth)
                for x in range(5):
                    for y in range(5):
                        steps = 4 - max(x, y)
                        far = number(fade) ** steps if x != y and steps < depth else 0
                        self.assertEqual(told[x][y], far)

    def test_a_coin_to_each_depth(self):
        """By hand: to depth k + 1 fade * (1/3 * to depth k + 1/6)."""
        one, other = machine("2 / 0 a 1 1"), machine("2 / 0 a 1 2")
        for fade in FADES:
            known = Fraction(0)
            self.assertEqual(self.ask(fade, one, other, 1)[0][0], 0)
            for depth in range(2, 13):
                known = number(fade) * (Fraction(1, 3) * known + Fraction(1, 6))
                self.assertEqual(self.ask(fade, one, other, depth), [[known, 1], [1, 0]])

    def test_against_sums_depth_by_depth(self):
        dice = Dice(63)
        for turn in range(12):
            signs = dice.one_of(["a", "ab", "abc"])
            size = dice.one_of([1, 4, 1000])
            one = some_machine(dice, dice.between(1, 5), signs, size, 30, 10)
            other = some_machine(dice, dice.between(1, 5), signs, size, 30, 10)
            if turn % 4 == 0:
                one, other = plain_machine(dice, 5, signs, 10), plain_machine(dice, 4, signs, 10)
            fade = dice.one_of(FADES)
            known = [[Fraction(0)] * other.many for x in range(one.many)]
            for depth in range(5):
                self.assertEqual(self.ask(fade, one, other, depth), known)
                known = one_deeper(number(fade), one, other, known)

    def test_each_depth_to_twelve_against_the_one_ahead(self):
        dice = Dice(64)
        for turn in range(3):
            one, other = some_machine(dice, 3, "ab", 4, 20, 8), some_machine(dice, 4, "ab", 4, 20, 8)
            for depth in range(12):
                ahead = self.ask(Share(7, 8), one, other, depth)
                self.assertEqual(self.ask(Share(7, 8), one, other, depth + 1), one_deeper(Fraction(7, 8), one, other, ahead))

    def test_twelve_rooms_and_depth_twelve(self):
        dice = Dice(65)
        one, other = some_machine(dice, 12, "ab", 5, 60, 10), some_machine(dice, 12, "ab", 5, 60, 10)
        ahead = self.ask(Share(3, 4), one, other, 11)
        told = self.ask(Share(3, 4), one, other, 12)
        for row, elder in zip(told, ahead):
            for far, less_far in zip(row, elder):
                self.assertTrue(0 <= less_far <= far <= 1)
                self.assertTrue(far - less_far <= Fraction(3, 4) ** 11)
        self.assertEqual(self.ask(Share(3, 4), one, one, 12), [list(row) for row in zip(*self.ask(Share(3, 4), one, one, 12))])

    def test_never_less_by_more_depth(self):
        dice = Dice(66)
        for turn in range(8):
            fade = dice.one_of(FADES)
            one, other = some_machine(dice, dice.between(1, 6), "ab"), some_machine(dice, dice.between(1, 6), "ab")
            tables = [self.ask(fade, one, other, depth) for depth in range(13)]
            for depth in range(12):
                for elder, later in zip(tables[depth], tables[depth + 1]):
                    for near, far in zip(elder, later):
                        self.assertTrue(near <= far <= near + number(fade) ** depth)

    def test_both_ways(self):
        dice = Dice(67)
        for turn in range(8):
            one, other = some_machine(dice, dice.between(1, 6), "ab"), some_machine(dice, dice.between(1, 6), "ab")
            for depth in [0, 1, 2, 5]:
                there = self.ask(HALF, one, other, depth)
                self.assertEqual(self.ask(HALF, other, one, depth), [list(row) for row in zip(*there)])

    def test_a_machine_and_itself(self):
        dice = Dice(68)
        for turn in range(8):
            one = some_machine(dice, dice.between(1, 8), "ab")
            for depth in [0, 1, 3, 12]:
                told = self.ask(Share(7, 8), one, one, depth)
                self.assertEqual([told[x][x] for x in range(one.many)], [0] * one.many)

    def test_weights_of_great_size(self):
        one = Machine(2, [(0, "a", (FORTY, 1))])
        other = Machine(2, [(0, "a", (FORTY, 2))])
        far = Fraction(FORTY, FORTY + 1) - Fraction(FORTY, FORTY + 2)
        self.assertEqual(self.ask(HALF, one, other, 2), [[far / 2, 1], [1, 0]])

    def test_changed_by_the_caller_the_same_is_told(self):
        one, other = machine("2 / 0 a 1 1"), machine("3 / 0 a 1 3 0")
        for depth in range(4):
            told = apart_to(HALF, one, other, depth)
            before = plain(told)
            for each in lists_in(told):
                each.append(None)
                each[0] = None
            self.assertEqual(plain(apart_to(HALF, one, other, depth)), before)


class Refused(unittest.TestCase):

    def setUp(self):
        self.one, self.other = machine("2 / 0 a 1 1"), machine("3 / 0 a 1 3 0")

    def refuse(self, refusal, fade, depth):
        before = plain((fade, self.one, self.other, depth))
        with self.assertRaises(errors.FarError) as caught:
            apart_to(fade, self.one, self.other, depth)
        self.assertIs(type(caught.exception), refusal)
        self.assertEqual(plain((fade, self.one, self.other, depth)), before)

    def test_no_fade(self):
        for thing in no_fades():
            for depth in [0, 1, 12]:
                self.refuse(errors.NoFade, thing, depth)

    def test_no_depth(self):
        for thing in no_depths():
            for fade in FADES:
                self.refuse(errors.NoDepth, fade, thing)

    def test_where_both_are_amiss(self):
        for fade in no_fades():
            for depth in [-1, 13, None, True, "3", Share(1)]:
                self.refuse(errors.NoFade, fade, depth)

    def test_depths_from_nought_to_twelve_are_told(self):
        for depth in range(13):
            apart_to(HALF, self.one, self.other, depth)


if __name__ == "__main__":
    unittest.main()
