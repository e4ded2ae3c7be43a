"""[6.1]: how far apart rooms and machines are."""

import unittest
from fractions import Fraction

from farbetween import errors
from farbetween.alike import alike, alike_sets, least
from farbetween.apart import apart, distance
from farbetween.depths import apart_to
from farbetween.machines import Machine
from farbetween.shares import Share
from tests.helper import (
    FORTY, Dice, lists_in, machine, no_fades, number, numbers, one_deeper, plain, plain_machine, some_machine, split_machine,
    steps_by_sign, table
)

HALF = Share(1, 2)
FADES = [HALF, Share(1, 3), Share(9, 10), Share(1, FORTY), Share(FORTY - 1, FORTY)]


def turned(rows):
    return [list(row) for row in zip(*rows)]


def far_without_chance(fade, one, other):
    """For machines without chance: the fade to the power of the least number of signs behind which menus differ."""
    ours, theirs = steps_by_sign(one), steps_by_sign(other)
    known = {
        (x, y): 0 for x in range(one.many) for y in range(other.many) if sorted(ours[x]) != sorted(theirs[y])
    }
    for turn in range(one.many * other.many):
        for x in range(one.many):
            for y in range(other.many):
                if (x, y) not in known:
                    ends = [(ours[x][sign].index(1), theirs[y][sign].index(1)) for sign in ours[x]]
                    if any(known.get(end) == turn for end in ends):
                        known[(x, y)] = turn + 1
    return [[fade ** known[(x, y)] if (x, y) in known else 0 for y in range(other.many)] for x in range(one.many)]


class Told(unittest.TestCase):

    def ask(self, fade, one, other):
        """What is told, in Fractions, its form being looked at."""
        before = plain((fade, one, other))
        told = apart(fade, one, other)
        self.assertIs(type(told), list)
        self.assertEqual([(type(row), len(row)) for row in told], [(list, other.many)] * one.many)
        self.assertTrue(all(type(share) is Share for row in told for share in row))
        self.assertEqual(len({id(each) for each in lists_in(told)}), one.many + 1)
        far = distance(fade, one, other)
        self.assertIs(type(far), Share)
        self.assertEqual(far, told[0][0])
        self.assertEqual(plain((fade, one, other)), before)
        return [numbers(row) for row in told]

    def check(self, fade, one, other):
        """That it is the one table of numbers from 0 to 1 of which the rule is true, by the tests' own sums."""
        told = self.ask(fade, one, other)
        self.assertTrue(all(0 <= far <= 1 for row in told for far in row))
        self.assertEqual(one_deeper(number(fade), one, other, told), told)
        return told


class Written(Told):

    def test_one_room_each(self):
        for one, other, far in [
            ("1", "1", 0), ("1 / 0 a 1", "1", 1), ("1", "1 / 0 a 1", 1), ("1 / 0 a 1", "1 / 0 a 1", 0), ("1 / 0 a 1", "1 / 0 b 1", 1),
            ("1 / 0 a 1 / 0 b 1", "1 / 0 b 1", 1), ("1 / 0 a 1 / 0 b 1", "1 / 0 b 1 / 0 a 1", 0),
        ]:
            for fade in FADES:
                self.assertEqual(self.check(fade, machine(one), machine(other)), [[far]])

    def test_a_coin_thrown_once(self):
        """Heads can go on, tails can't; it takes one sign until that is seen, and the shares differ by 1/4."""
        one = machine("3 / 0 a 0 1 1 / 1 b 0 1 0")
        other = machine("3 / 0 a 0 1 3 / 1 b 0 1 0")
        for fade in FADES:
            self.assertEqual(self.check(fade, one, other)[0][0], number(fade) / 4)
        self.assertEqual(distance(HALF, one, other), Share(1, 8))

    def test_a_coin_thrown_until_it_fails(self):
        """By hand: far = fade * (q * far + (p - q)) where q is the lesser share of staying, p the greater."""
        for stay, fail, other_stay, other_fail in [(1, 1, 1, 2), (1, 1, 1, 3), (2, 1, 1, 5), (FORTY, 1, 1, 1), (1, 0, 1, 1)]:
            one = Machine(2, [(0, "a", (stay, fail))])
            other = Machine(2, [(0, "a", (other_stay, other_fail))])
            p, q = Fraction(stay, stay + fail), Fraction(other_stay, other_stay + other_fail)
            for fade in FADES:
                far = number(fade) * abs(p - q) / (1 - number(fade) * min(p, q))
                self.assertEqual(self.check(fade, one, other), [[far, 1], [1, 0]])
                self.assertEqual(self.check(fade, other, one), [[far, 1], [1, 0]])
        self.assertEqual(distance(HALF, machine("2 / 0 a 1 1"), machine("2 / 0 a 1 2")), Share(1, 10))

    def test_two_signs_the_greater_one_counts(self):
        one = machine("2 / 0 a 1 1 / 0 b 1 1")
        for other in ["2 / 0 a 1 2 / 0 b 1 3", "2 / 0 a 1 3 / 0 b 1 2"]:
            told = self.check(HALF, one, machine(other))
            self.assertEqual(told[0][0], max(Fraction(1, 4) / 2 / (1 - Fraction(1, 8)), Fraction(1, 10)))

    def test_the_table_whole(self):
        one, other = machine("2 / 0 a 1 1"), machine("3 / 0 a 1 1 1 / 2 a 0 0 1")
        told = apart(HALF, one, other)
        self.check(HALF, one, other)
        self.assertEqual(told[1], table("1 0 1")[0])
        self.assertEqual(told[0][1], Share(1))
        self.assertEqual(told[0][2], Share(1, 3))

    def test_a_loop_that_never_fails_against_one_that_may(self):
        """From a loop no depth comes to an end."""
        one, other = machine("1 / 0 a 1"), machine("2 / 0 a 1 1")
        for fade in FADES:
            far = number(fade) / 2 / (1 - number(fade) / 2)
            self.assertEqual(self.check(fade, one, other), [[far, 1]])
            for depth in range(13):
                self.assertTrue(number(apart_to(fade, one, other, depth)[0][0]) < far)


class WithoutChance(Told):

    def test_by_dice(self):
        dice = Dice(81)
        seen = set()
        for turn in range(40):
            signs = dice.one_of(["a", "ab"])
            one, other = plain_machine(dice, dice.between(1, 6), signs, 8), plain_machine(dice, dice.between(1, 6), signs, 8)
            fade = dice.one_of(FADES)
            told = self.check(fade, one, other)
            self.assertEqual(told, far_without_chance(number(fade), one, other))
            seen.update(far for row in far_without_chance(Fraction(1, 2), one, other) for far in row)
        self.assertTrue(len(seen) > 4, seen)

    def test_chains(self):
        steps = "/ 0 a 0 1 0 0 0 0 / 1 a 0 0 1 0 0 0 / 2 a 0 0 0 1 0 0 / 3 a 0 0 0 0 1 0 / 4 a 0 0 0 0 0 1"
        one, other = machine("6 " + steps), machine("6 " + steps + " / 5 b 1 0 0 0 0 0")
        for fade in FADES:
            self.assertEqual(self.check(fade, one, other)[0][0], number(fade) ** 5)
            self.assertEqual(self.ask(fade, one, other), far_without_chance(number(fade), one, other))

    def test_rings_that_are_alike(self):
        """Rings of one sign, however long, are 0 apart; of unlike lengths with a mark they are not."""
        rings = [Machine(many, [(x, "a", tuple(int(to == (x + 1) % many) for to in range(many))) for x in range(many)])
                 for many in [2, 3, 5, 6]]
        for one in rings:
            for other in rings:
                self.assertEqual(self.check(HALF, one, other), [[0] * other.many] * one.many)
        marked = [Machine(each.many, each.steps + [(0, "b", each.steps[0][2])]) for each in rings[:3]]
        for one in marked:
            for other in marked:
                told = self.check(HALF, one, other)
                self.assertEqual(told, far_without_chance(Fraction(1, 2), one, other))
                self.assertEqual(told[0][0] == 0, one.many == other.many)


class ByDice(Told):

    def some(self, dice, turn):
        signs = dice.one_of(["a", "ab", "abc"])
        size = dice.one_of([1, 3, 20, 10 ** 6])
        many = dice.between(1, 6)
        others = dice.between(1, min(6, 40 // many))
        one = some_machine(dice, many, signs, size, dice.one_of([0, 30, 60]), dice.one_of([5, 15]))
        if turn % 3 == 0:
            small = some_machine(dice, dice.between(1, 3), signs, size, 30, 15)
            return split_machine(dice, small, dice.between(small.many, 6)), split_machine(dice, small, dice.between(small.many, 6))
        return one, some_machine(dice, others, signs, size, dice.one_of([0, 30, 60]), dice.one_of([5, 15]))

    def test_the_rule_is_true(self):
        dice = Dice(82)
        for turn in range(60):
            one, other = self.some(dice, turn)
            self.check(dice.one_of(FADES), one, other)

    def test_nought_just_where_they_are_alike(self):
        dice = Dice(83)
        found = [0, 0]
        for turn in range(60):
            one, other = self.some(dice, turn)
            fade = dice.one_of(FADES)
            told = self.ask(fade, one, other)
            self.assertIs(told[0][0] == 0, alike(one, other))
            found[told[0][0] == 0] += 1
            if one.many * one.many <= 40:
                own = self.ask(fade, one, one)
                sets = [set(each) for each in alike_sets(one)]
                for x in range(one.many):
                    for y in range(one.many):
                        self.assertIs(own[x][y] == 0, any({x, y} <= each for each in sets))
        self.assertTrue(min(found) > 10, found)

    def test_never_below_a_depth_and_not_much_above(self):
        dice = Dice(84)
        for turn in range(20):
            one, other = self.some(dice, turn)
            fade = dice.one_of(FADES)
            told = self.ask(fade, one, other)
            for depth in [0, 1, 2, 3, 7, 12]:
                for row, near in zip(told, apart_to(fade, one, other, depth)):
                    for far, to_depth in zip(row, numbers(near)):
                        self.assertTrue(to_depth <= far <= to_depth + number(fade) ** depth)

    def test_both_ways(self):
        dice = Dice(85)
        for turn in range(20):
            one, other = self.some(dice, turn)
            fade = dice.one_of(FADES)
            self.assertEqual(self.ask(fade, other, one), turned(self.ask(fade, one, other)))

    def test_a_machine_and_itself(self):
        dice = Dice(86)
        for turn in range(15):
            one = some_machine(dice, dice.between(1, 6), "ab", 5, 40, 10)
            told = self.check(dice.one_of(FADES), one, one)
            self.assertEqual([told[x][x] for x in range(one.many)], [0] * one.many)
            self.assertEqual(turned(told), told)

    def test_no_nearer_by_a_third_one(self):
        dice = Dice(87)
        for turn in range(10):
            one, other, third = [some_machine(dice, dice.between(1, 4), "ab", 5, 40, 5) for which in range(3)]
            fade = dice.one_of(FADES)
            straight, first, second = self.ask(fade, one, third), self.ask(fade, one, other), self.ask(fade, other, third)
            for x in range(one.many):
                for y in range(other.many):
                    for z in range(third.many):
                        self.assertTrue(straight[x][z] <= first[x][y] + second[y][z])

    def test_the_least_machine_is_as_far(self):
        dice = Dice(88)
        for turn in range(12):
            one, other = self.some(dice, turn)
            self.assertEqual(distance(HALF, one, other), distance(HALF, least(one), least(other)))

    def test_a_greater_fade_is_no_nearer(self):
        dice = Dice(89)
        for turn in range(10):
            one, other = self.some(dice, turn)
            rising = [self.ask(fade, one, other) for fade in [Share(1, FORTY), Share(1, 3), HALF, Share(9, 10)]]
            for near, far in zip(rising, rising[1:]):
                self.assertTrue(all(a <= b for row, other_row in zip(near, far) for a, b in zip(row, other_row)))

    def test_weights_of_great_size(self):
        dice = Dice(90)
        for turn in range(6):
            one, other = some_machine(dice, 3, "ab", FORTY, 20, 5), some_machine(dice, 3, "ab", FORTY, 20, 5)
            self.check(dice.one_of(FADES), one, other)


class ForMany(Told):

    def test_forty_pairs(self):
        dice = Dice(91)
        for many, others in [(4, 10), (10, 4), (5, 8), (8, 5)]:
            one, other = some_machine(dice, many, "ab", 9, 30, 6), some_machine(dice, others, "ab", 9, 30, 6)
            self.check(dice.one_of(FADES), one, other)

    def test_rooms_one_by_one(self):
        dice = Dice(92)
        for many in range(1, 13):
            one, other = some_machine(dice, 1, "ab", 9, 30, 6), some_machine(dice, many, "ab", 9, 30, 6)
            self.assertEqual(self.check(HALF, other, one), turned(self.check(HALF, one, other)))

    def test_too_many(self):
        for many in range(1, 13):
            for others in range(1, 13):
                one, other = Machine(many, []), Machine(others, [])
                if many * others <= 40:
                    self.assertEqual(self.ask(HALF, one, other), [[0] * others] * many)
                else:
                    self.refuse(errors.TooMany, HALF, one, other)

    def test_too_many_as_handed_in(self):
        """Rooms that can't be come to count."""
        self.refuse(errors.TooMany, HALF, Machine(7, [(0, "a", (1,) + (0,) * 6)]), Machine(6, []))

    def refuse(self, refusal, fade, one, other):
        before = plain((fade, one, other))
        for asked in [apart, distance]:
            with self.assertRaises(errors.FarError) as caught:
                asked(fade, one, other)
            self.assertIs(type(caught.exception), refusal)
        self.assertEqual(plain((fade, one, other)), before)

    def test_no_fade(self):
        for thing in no_fades():
            self.refuse(errors.NoFade, thing, machine("2 / 0 a 1 1"), machine("2 / 0 a 1 2"))

    def test_no_fade_goes_ahead_of_too_many(self):
        for thing in no_fades():
            self.refuse(errors.NoFade, thing, Machine(12, []), Machine(12, []))


class Again(unittest.TestCase):

    def test_changed_by_the_caller_the_same_is_told(self):
        dice = Dice(93)
        one, other = some_machine(dice, 4, "ab", 5, 40, 5), some_machine(dice, 5, "ab", 5, 40, 5)
        told = apart(HALF, one, other)
        before = plain(told)
        for each in lists_in(told):
            each.append(None)
            each[0] = None
        self.assertEqual(plain(apart(HALF, one, other)), before)
        self.assertEqual(plain(distance(HALF, one, other)), before[1][0][1][0])

    def test_refused_and_asked_again(self):
        one, other = machine("2 / 0 a 1 1"), machine("2 / 0 a 1 2")
        for thing in [None, Share(1), Share(0)]:
            with self.assertRaises(errors.NoFade):
                distance(thing, one, other)
        self.assertEqual(distance(HALF, one, other), Share(1, 10))


if __name__ == "__main__":
    unittest.main()
