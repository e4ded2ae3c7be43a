"""Equations in whole numbers, on which apart stands."""

import math
import unittest
from fractions import Fraction

from farbetween.equations import solved
from tests.helper import FORTY, Dice, plain


def some_lines(dice, many, size, empty):
    """Lines in which each number's own factor is greater than all the others of its line together."""
    lines = []
    for at in range(many):
        line = [0 if dice.below(100) < empty else -dice.between(0, size) for to in range(many)]
        line[at] = 0
        line[at] = dice.between(1, size) - sum(line)
        lines.append(line + [dice.between(0, size)])
    return lines


class Solved(unittest.TestCase):

    def check(self, lines):
        before = plain(lines)
        tops, bottom = solved(lines)
        self.assertEqual(plain(lines), before)
        self.assertGreater(bottom, 0)
        self.assertEqual(math.gcd(bottom, *tops), 1)
        self.assertEqual(len(tops), len(lines))
        for line in lines:
            self.assertEqual(sum(factor * top for factor, top in zip(line, tops)), line[-1] * bottom)
        return [Fraction(top, bottom) for top in tops]

    def test_none(self):
        self.assertEqual(solved([]), ([], 1))

    def test_written_out(self):
        self.assertEqual(self.check([[4, 2]]), [Fraction(1, 2)])
        self.assertEqual(self.check([[2, -1, 1], [0, 3, 1]]), [Fraction(2, 3), Fraction(1, 3)])
        self.assertEqual(self.check([[2, -1, 0], [-1, 2, 3]]), [1, 2])
        self.assertEqual(self.check([[3, 0, 0, 0], [-1, 4, 0, 0], [-1, -1, 5, 0]]), [0, 0, 0])

    def test_by_dice(self):
        dice = Dice(71)
        for turn in range(60):
            lines = some_lines(dice, dice.between(1, 12), dice.one_of([1, 9, 10 ** 6, FORTY]), dice.one_of([0, 60, 95]))
            self.check(lines)

    def test_forty(self):
        dice = Dice(72)
        for size in [2, 1000]:
            self.check(some_lines(dice, 40, size, 70))


if __name__ == "__main__":
    unittest.main()
