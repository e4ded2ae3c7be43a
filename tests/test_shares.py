"""[1.1] and [1.2]: shares, and how they are reckoned with."""

import math
import unittest

from farbetween import errors
from farbetween.shares import Share, less, minus, over, plus, sum_of, times
from tests.helper import FORTY, Dice, anything, plain


def pairs():
    """Tops and bottoms of few and of forty figures, of either sign, with and without a common part."""
    dice = Dice(11)
    small = [(top, bottom) for top in range(-7, 8) for bottom in range(-7, 8) if bottom != 0]
    long = []
    for turn in range(60):
        part = dice.one_of([1, 6, 10 ** 12, dice.between(1, FORTY)])
        top = dice.one_of([-1, 1]) * dice.between(0, 10 * FORTY)
        bottom = dice.one_of([-1, 1]) * dice.between(1, 10 * FORTY)
        long.append((top * part, bottom * part))
    return small + long


class Making(unittest.TestCase):

    def check(self, share, top, bottom):
        self.assertIs(type(share.top), int)
        self.assertIs(type(share.bottom), int)
        self.assertGreater(share.bottom, 0)
        self.assertEqual(math.gcd(share.top, share.bottom), 1)
        self.assertEqual(share.top * bottom, top * share.bottom)

    def test_lowest_terms(self):
        for top, bottom in pairs():
            self.check(Share(top, bottom), top, bottom)

    def test_written_out(self):
        for top, bottom, lowest in [
            (6, 4, (3, 2)), (-6, 4, (-3, 2)), (6, -4, (-3, 2)), (-6, -4, (3, 2)), (5, 1, (5, 1)), (5, -5, (-1, 1)),
            (0, 7, (0, 1)), (0, -7, (0, 1)), (0, 1, (0, 1)), (12, 18, (2, 3)), (18, 12, (3, 2)), (1, 10 ** 50, (1, 10 ** 50)),
            (-(10 ** 50), 10 ** 49, (-10, 1)), (7 * FORTY, 21 * FORTY, (1, 3)),
        ]:
            share = Share(top, bottom)
            self.assertEqual((share.top, share.bottom), lowest)

    def test_bottom_left_out(self):
        for top in [0, 1, -1, 12, FORTY, -FORTY]:
            self.assertEqual((Share(top).top, Share(top).bottom), (top, 1))

    def test_numbers_of_any_size(self):
        share = Share(3 ** 20000, -(3 ** 19998) * 7)
        self.assertEqual((share.top, share.bottom), (-9, 7))

    def test_no_share_of_top(self):
        for thing in anything() + [Share(1), Share(1, 2)]:
            with self.assertRaises(errors.NoShare):
                Share(thing)
            with self.assertRaises(errors.NoShare):
                Share(thing, 3)
            with self.assertRaises(errors.NoShare):
                Share(thing, 0)

    def test_no_share_of_bottom(self):
        for thing in anything() + [Share(1), Share(1, 2), 0]:
            for top in [0, 1, -FORTY, None, True]:
                with self.assertRaises(errors.NoShare):
                    Share(top, thing)

    def test_the_refusal_is_just_no_share(self):
        for top, bottom in [(1, 0), (0, 0), (None, 1), (True, 1), (1, True), (1, False)]:
            with self.assertRaises(ValueError) as caught:
                Share(top, bottom)
            self.assertIs(type(caught.exception), errors.NoShare)
            self.assertIsInstance(caught.exception, errors.FarError)


class Text(unittest.TestCase):

    def test_with_a_bottom(self):
        for top, bottom, text in [(1, 2, "1/2"), (-1, 2, "-1/2"), (2, -4, "-1/2"), (10, 4, "5/2"), (1, FORTY, f"1/{FORTY}")]:
            self.assertEqual(str(Share(top, bottom)), text)

    def test_without_a_bottom(self):
        for top, bottom, text in [(0, 5, "0"), (3, 1, "3"), (-3, 1, "-3"), (8, 4, "2"), (4, -4, "-1"), (FORTY, 1, str(FORTY))]:
            self.assertEqual(str(Share(top, bottom)), text)

    def test_of_four_thousand_figures(self):
        top, bottom = 10 ** 3999 + 1, 10 ** 3999
        self.assertEqual(str(Share(top, bottom)), f"{top}/{bottom}")


class Equal(unittest.TestCase):

    def test_the_same_number_written_otherwise(self):
        for top, bottom in pairs():
            for factor in [1, -1, 5, FORTY + 7]:
                one, other = Share(top, bottom), Share(top * factor, bottom * factor)
                self.assertTrue(one == other and other == one)
                self.assertFalse(one != other or other != one)

    def test_unlike_numbers(self):
        for one, other in [
            (Share(1, 2), Share(1, 3)), (Share(1, 2), Share(3, 2)), (Share(1, 2), Share(-1, 2)), (Share(0), Share(1)),
            (Share(2), Share(1, 2)), (Share(FORTY, FORTY + 1), Share(FORTY + 1, FORTY + 2)), (Share(1), Share(1, FORTY)),
        ]:
            self.assertFalse(one == other or other == one)
            self.assertTrue(one != other and other != one)

    def test_against_each_other(self):
        for top, bottom in pairs()[::5]:
            for other_top, other_bottom in pairs()[::5]:
                same = top * other_bottom == other_top * bottom
                self.assertIs(Share(top, bottom) == Share(other_top, other_bottom), same)

    def test_nothing_that_is_no_share(self):
        for thing in anything() + [0, 1, 2, FORTY, (1, 2), [1, 2], "2", "1/2"]:
            for share in [Share(0), Share(1), Share(2), Share(1, 2), Share(FORTY)]:
                self.assertFalse(share == thing or thing == share)
                self.assertTrue(share != thing and thing != share)


class Reckoning(unittest.TestCase):

    def check(self, share, top, bottom):
        """The share is top over bottom, reckoned here by whole numbers, in lowest terms."""
        self.assertIsInstance(share, Share)
        part = math.gcd(top, bottom) * (1 if bottom > 0 else -1)
        self.assertEqual((share.top, share.bottom), (top // part, bottom // part))

    def couples(self):
        dice = Dice(5)
        some = pairs()
        return [(dice.one_of(some), dice.one_of(some)) for turn in range(400)] + [(each, each) for each in some]

    def test_all_four_and_less(self):
        for (a, b), (c, d) in self.couples():
            one, other = Share(a, b), Share(c, d)
            self.check(plus(one, other), a * d + c * b, b * d)
            self.check(minus(one, other), a * d - c * b, b * d)
            self.check(times(one, other), a * c, b * d)
            if c != 0:
                self.check(over(one, other), a * d, b * c)
            sign = 1 if b * d > 0 else -1
            self.assertIs(less(one, other), a * d * sign < c * b * sign)
            self.assertEqual((plain(one), plain(other)), (plain(Share(a, b)), plain(Share(c, d))))

    def test_written_out(self):
        half, third, none = Share(1, 2), Share(1, 3), Share(0)
        self.assertEqual(str(plus(half, third)), "5/6")
        self.assertEqual(str(plus(half, half)), "1")
        self.assertEqual(str(minus(third, half)), "-1/6")
        self.assertEqual(str(minus(half, half)), "0")
        self.assertEqual(str(times(half, Share(-2, 3))), "-1/3")
        self.assertEqual(str(times(none, third)), "0")
        self.assertEqual(str(over(half, third)), "3/2")
        self.assertEqual(str(over(half, Share(-1, 3))), "-3/2")
        self.assertEqual(str(over(none, Share(-5))), "0")

    def test_less_written_out(self):
        rising = [Share(-FORTY), Share(-1), Share(-1, 2), Share(-1, 3), Share(0), Share(1, FORTY), Share(1, 3), Share(1, 2),
                  Share(FORTY - 1, FORTY), Share(1), Share(FORTY + 1, FORTY), Share(FORTY)]
        for at, one in enumerate(rising):
            for to, other in enumerate(rising):
                self.assertIs(less(one, other), at < to)

    def test_over_by_nought(self):
        for bottom in [1, -1, 7, -FORTY]:
            for one in [Share(0), Share(1), Share(-3, 4), Share(FORTY)]:
                with self.assertRaises(errors.NoShare) as caught:
                    over(one, Share(0, bottom))
                self.assertIs(type(caught.exception), errors.NoShare)


class Sums(unittest.TestCase):

    def lists(self):
        dice = Dice(23)
        some = [Share(top, bottom) for top, bottom in pairs()]
        return [[dice.one_of(some) for turn in range(dice.below(9))] for turn in range(80)]

    def test_none(self):
        self.assertEqual(sum_of([]), Share(0))
        self.assertEqual((sum_of([]).top, sum_of([]).bottom), (0, 1))

    def test_whole_number_reckoning(self):
        for shares in self.lists():
            top, bottom = 0, 1
            for share in shares:
                top, bottom = top * share.bottom + share.top * bottom, bottom * share.bottom
            part = math.gcd(top, bottom)
            told = sum_of(shares)
            self.assertEqual((told.top, told.bottom), (top // part, bottom // part))

    def test_order_and_parting(self):
        dice = Dice(3)
        for shares in self.lists():
            whole = sum_of(shares)
            self.assertEqual(sum_of(dice.mixed(shares)), whole)
            cut = dice.below(len(shares) + 1)
            self.assertEqual(plus(sum_of(shares[:cut]), sum_of(shares[cut:])), whole)
            self.assertEqual(sum_of([sum_of(shares[:cut])] + shares[cut:]), whole)

    def test_the_list_stays(self):
        for shares in self.lists():
            handed = list(shares)
            before = plain(handed)
            told = plain(sum_of(handed))
            self.assertEqual(plain(handed), before)
            self.assertTrue(all(one is other for one, other in zip(handed, shares)))
            self.assertEqual(plain(sum_of(handed)), told)

    def test_one_share_several_times(self):
        third = Share(1, 3)
        self.assertEqual(sum_of([third, third, third]), Share(1))
        self.assertEqual(sum_of([third]), third)

    def test_many_long_ones(self):
        bottoms = [FORTY + at for at in range(300)]
        top, bottom = 0, 1
        for each in bottoms:
            top, bottom = top * each + bottom, bottom * each
        self.assertEqual(sum_of([Share(1, each) for each in bottoms]), Share(top, bottom))


if __name__ == "__main__":
    unittest.main()
