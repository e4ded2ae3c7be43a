"""[7.4]: the book that tells two machines apart by just as much as they are apart to a depth."""

import unittest

from farbetween import errors
from farbetween.depths import apart_to
from farbetween.machines import Machine
from farbetween.sayings import deep, telling, worth
from farbetween.shares import Share, minus
from tests.helper import (
    FORTY, Dice, anything, lists_in, machine, no_fades, number, plain, plain_machine, some_machine, split_machine
)
from tests.test_sayings import by_hand, depth_by_hand

HALF = Share(1, 2)
FADES = [HALF, Share(1, 3), Share(7, 8), Share(1, FORTY), Share(FORTY - 1, FORTY)]


class Told(unittest.TestCase):

    def tell(self, fade, one, other, depth):
        """How far the book that is told tells both apart, the book being looked at by sums of the tests' own."""
        before = plain((fade, one, other, depth))
        book = telling(fade, one, other, depth)
        self.assertEqual(plain((fade, one, other, depth)), before)
        self.assertIs(type(book), list)
        self.assertTrue(book and all(type(row) is tuple for row in book))
        self.assertEqual(len({id(each) for each in lists_in(book)}), 1)
        self.assertLessEqual(deep(book), depth)
        far = minus(worth(book, fade, one), worth(book, fade, other))
        self.assertEqual(far, apart_to(fade, one, other, depth)[0][0])
        if len(book) < 40:
            self.assertLessEqual(depth_by_hand(book, len(book) - 1), depth)
            self.assertEqual(by_hand(book, fade, one)[-1][0] - by_hand(book, fade, other)[-1][0], number(far))
        return number(far)

    def tell_both_ways(self, fade, one, other):
        told = [self.tell(fade, one, other, depth) for depth in range(5)]
        self.assertEqual([self.tell(fade, other, one, depth) for depth in range(5)], told)
        return told


class Tellings(Told):

    def test_unlike_menus(self):
        for one, other in [("1 / 0 a 1", "1"), ("1 / 0 a 1", "1 / 0 b 1"), ("1 / 0 a 1 / 0 b 1", "1 / 0 a 1")]:
            for fade in FADES:
                self.assertEqual(self.tell_both_ways(fade, machine(one), machine(other)), [0, 1, 1, 1, 1])

    def test_a_coin(self):
        told = self.tell_both_ways(HALF, machine("2 / 0 a 1 1"), machine("2 / 0 a 1 3"))
        self.assertEqual(told, [number(Share(*share)) for share in [(0,), (0,), (1, 8), (9, 64), (73, 512)]])

    def test_menus_that_differ_deep_down(self):
        for many in range(1, 4):
            chain = Machine(many, [(at, "a", tuple(int(to == at + 1) for to in range(many))) for at in range(many - 1)])
            ring = machine("1 / 0 a 1")
            for fade in FADES:
                told = self.tell_both_ways(fade, chain, ring)
                self.assertEqual(told, [number(fade) ** (many - 1) if depth >= many else 0 for depth in range(5)])

    def test_a_machine_and_itself_and_alike_ones(self):
        dice = Dice(721)
        for turn in range(15):
            one = some_machine(dice, dice.between(1, 3), "ab")
            self.assertEqual(self.tell_both_ways(dice.one_of(FADES), one, one), [0] * 5)
            other = split_machine(dice, one, 3)
            self.assertEqual(self.tell_both_ways(dice.one_of(FADES), one, other), [0] * 5)

    def test_machines_with_chance(self):
        dice = Dice(722)
        for turn in range(60):
            many = dice.between(1, 5)
            signs, size = dice.one_of(["a", "ab", "abc"]), dice.one_of([1, 4, 1000])
            one, other = some_machine(dice, many, signs, size, 30, 8), some_machine(dice, 6 - many, signs, size, 30, 8)
            self.tell_both_ways(dice.one_of(FADES), one, other)

    def test_machines_with_chance_that_differ_but_in_their_last_rooms(self):
        dice = Dice(723)
        seen = 0
        for turn in range(40):
            one, other = [
                Machine(3, [step for step in some_machine(dice, 3, "ab", 5, 20, 0).steps if step[:2] != (2, "a")]) for each in "xy"
            ]
            told = self.tell_both_ways(dice.one_of(FADES), one, other)
            seen += told[1] < told[2] < told[3] < told[4]
        self.assertGreater(seen, 20)

    def test_machines_without_chance(self):
        dice = Dice(724)
        for turn in range(40):
            many = dice.between(1, 5)
            one, other = plain_machine(dice, many, "ab", 12), plain_machine(dice, 6 - many, "ab", 12)
            self.tell_both_ways(dice.one_of(FADES), one, other)

    def test_one_room_and_five(self):
        one = machine("1 / 0 a 1")
        other = machine("5 / 0 a 1 2 0 0 0 / 1 a 0 0 1 3 0 / 2 a 0 1 0 0 1 / 3 a 0 0 0 0 1")
        told = self.tell_both_ways(Share(7, 8), one, other)
        self.assertTrue(0 == told[1] == told[2] == told[3] < told[4])
        self.assertTrue(self.tell_both_ways(Share(7, 8), machine("1"), other) == [0, 1, 1, 1, 1])

    def test_rooms_that_cannot_be_come_to(self):
        one, other = machine("3 / 0 a 1 0 0 / 1 b 1 1 1 / 2 a 1 1 1"), machine("3 / 0 a 1 0 0 / 2 c 1 1 1")
        self.assertEqual(self.tell_both_ways(HALF, one, other), [0] * 5)

    def test_weights_of_great_size(self):
        one = Machine(3, [(0, "a", (FORTY, 1, 7)), (1, "a", (1, 1, FORTY ** 3)), (2, "b", (1, 0, 0))])
        other = Machine(3, [(0, "a", (FORTY, 2, 9)), (1, "a", (5, 1, FORTY ** 2)), (2, "b", (1, 2, 0))])
        for fade in FADES:
            told = self.tell_both_ways(fade, one, other)
            self.assertTrue(told[2] < told[3] < told[4])

    def test_many_signs(self):
        dice = Dice(725)
        signs = [first + second for first in "abcd" for second in "abcd"]
        one, other = some_machine(dice, 3, signs, 9, 30, 0), some_machine(dice, 3, signs, 9, 30, 0)
        one = Machine(3, [step for step in one.steps if step[:2] != (1, "ab")])
        other = Machine(3, [step for step in other.steps if step[:2] != (2, "cd")])
        told = self.tell_both_ways(Share(7, 8), one, other)
        self.assertTrue(told[1] == 0 < told[2] <= told[3] <= told[4])

    def test_changed_by_the_caller_the_same_is_told(self):
        one, other = machine("2 / 0 a 1 1"), machine("3 / 0 a 1 3 0 / 2 b 1 1 1")
        for depth in range(5):
            book = telling(HALF, one, other, depth)
            before = plain(book)
            book.append(None)
            book[0] = None
            self.assertEqual(plain(telling(HALF, one, other, depth)), before)


class Refused(unittest.TestCase):

    def refuse(self, refusal, *handed):
        before = plain(handed)
        with self.assertRaises(errors.FarError) as caught:
            telling(*handed)
        self.assertIs(type(caught.exception), refusal)
        self.assertEqual(plain(handed), before)

    def setUp(self):
        self.one, self.other, self.large = machine("2 / 0 a 1 1"), machine("3 / 0 a 1 3 0"), Machine(5, [])

    def no_depths(self):
        return anything() + [-1, 5, 6, 12, -4, FORTY, Share(0), Share(1), "3", (3,), [3]]

    def test_no_fade(self):
        for fade in no_fades():
            for depth in [0, 4, 5, None]:
                self.refuse(errors.NoFade, fade, self.one, self.other, depth)
                self.refuse(errors.NoFade, fade, self.one, self.large, depth)

    def test_no_depth(self):
        for depth in self.no_depths():
            self.refuse(errors.NoDepth, HALF, self.one, self.other, depth)
            self.refuse(errors.NoDepth, HALF, self.one, self.large, depth)

    def test_too_many(self):
        for many in range(1, 13):
            for more in range(1, 13):
                for depth in [0, 4]:
                    if many + more > 6:
                        self.refuse(errors.TooMany, HALF, Machine(many, []), Machine(more, []), depth)
                    else:
                        telling(HALF, Machine(many, []), Machine(more, []), depth)

    def test_too_many_rooms_though_they_cannot_be_come_to(self):
        dead = Machine(6, [(0, "a", (1, 0, 0, 0, 0, 0))])
        self.refuse(errors.TooMany, HALF, dead, machine("1"), 1)
        self.refuse(errors.TooMany, HALF, machine("1"), dead, 1)


if __name__ == "__main__":
    unittest.main()
