"""[3.1] to [3.3]: machines, their menus and heaps, and what is trimmed."""

import math
import unittest
from fractions import Fraction

from farbetween import errors
from farbetween.machines import Machine, heap, menu, trimmed
from farbetween.shares import Share
from tests.helper import FORTY, Dice, anything, lists_in, machine, number, numbers, plain, plain_machine, some_machine

GOOD = [(0, "a", (1, 2)), (1, "b", (0, 1)), (0, "b", (3, 1))]


class Made(unittest.TestCase):

    def check_kinds(self, made):
        self.assertIs(type(made.many), int)
        self.assertIs(type(made.steps), list)
        for step in made.steps:
            self.assertIs(type(step), tuple)
            self.assertEqual([type(each) for each in step], [int, str, tuple])
            self.assertEqual([type(weight) for weight in step[2]], [int] * made.many)
            self.assertEqual(math.gcd(*step[2]), 1)
        self.assertEqual(made.steps, sorted(made.steps))

    def test_written_out(self):
        made = Machine(2, [(1, "b", (0, 7)), (0, "b", (6, 2)), (0, "a", (4, 6)), (0, "ab", (5, 0))])
        self.assertEqual(made.many, 2)
        self.assertEqual(made.steps, [(0, "a", (2, 3)), (0, "ab", (1, 0)), (0, "b", (3, 1)), (1, "b", (0, 1))])
        self.check_kinds(made)

    def test_sorted_by_room_ahead_of_sign(self):
        steps = [(11, "a", (1,) * 12), (2, "b", (1,) * 12), (2, "az", (1,) * 12), (10, "a", (1,) * 12), (2, "a", (1,) * 12)]
        self.assertEqual([step[:2] for step in Machine(12, steps).steps], [(2, "a"), (2, "az"), (2, "b"), (10, "a"), (11, "a")])

    def test_one_room(self):
        self.assertEqual(Machine(1, [(0, "a", (5,))]).steps, [(0, "a", (1,))])
        self.assertEqual(Machine(1, [(0, "zzzzzzzz", (FORTY,))]).steps, [(0, "zzzzzzzz", (1,))])

    def test_twelve_rooms(self):
        made = Machine(12, [(11, "a", tuple(range(0, 24, 2))), (0, "a", (0,) * 11 + (9,))])
        self.assertEqual(made.steps, [(0, "a", (0,) * 11 + (1,)), (11, "a", tuple(range(12)))])
        self.check_kinds(made)

    def test_no_steps(self):
        for many in range(1, 13):
            made = Machine(many, [])
            self.assertEqual((made.many, made.steps, len(made)), (many, [], many))
            self.assertIs(type(made.steps), list)

    def test_len(self):
        for many in range(1, 13):
            self.assertEqual(len(Machine(many, [(0, "a", (1,) * many)])), many)
            self.assertIs(type(len(Machine(many, []))), int)

    def test_weights_of_great_size(self):
        for weights, lowest in [
            ((6 * FORTY, 4 * FORTY), (3, 2)), ((FORTY, FORTY + 1), (FORTY, FORTY + 1)), ((0, FORTY), (0, 1)),
            ((7 ** 500, 7 ** 499 * 2), (7, 2)), ((10 ** 5000, 1), (10 ** 5000, 1)),
        ]:
            self.assertEqual(Machine(2, [(0, "a", weights)]).steps, [(0, "a", lowest)])

    def test_noughts_among_weights(self):
        for weights, lowest in [
            ((0, 0, 4), (0, 0, 1)), ((4, 0, 0), (1, 0, 0)), ((0, 4, 6), (0, 2, 3)), ((4, 0, 6), (2, 0, 3)), ((9, 6, 0), (3, 2, 0)),
            ((6, 10, 15), (6, 10, 15)), ((12, 18, 30), (2, 3, 5)),
        ]:
            self.assertEqual(Machine(3, [(2, "a", weights)]).steps, [(2, "a", lowest)])

    def test_by_dice(self):
        dice = Dice(41)
        for turn in range(80):
            many = dice.between(1, 12)
            size = dice.one_of([1, 9, 1000, FORTY])
            steps = []
            for room in range(many):
                for sign in dice.mixed(["a", "b", "z", "abcdefgh"])[:dice.below(5)]:
                    weights = [dice.below(size) for to in range(many)]
                    weights[dice.below(many)] += 1
                    factor = dice.one_of([1, 2, 12, FORTY])
                    steps.append((room, sign, tuple(weight * factor for weight in weights)))
            handed = dice.mixed(steps)
            made = Machine(many, handed)
            self.check_kinds(made)
            self.assertEqual([step[:2] for step in made.steps], sorted(step[:2] for step in steps))
            for room, sign, weights in made.steps:
                elder = [step[2] for step in steps if step[:2] == (room, sign)][0]
                self.assertEqual(
                    [Fraction(each, sum(weights)) for each in weights], [Fraction(each, sum(elder)) for each in elder]
                )

    def test_the_list_handed_in_stays(self):
        handed = [(1, "b", (0, 7)), (0, "a", (4, 6))]
        made = Machine(2, handed)
        self.assertEqual(handed, [(1, "b", (0, 7)), (0, "a", (4, 6))])
        self.assertIsNot(made.steps, handed)

    def test_changed_behind_its_being_handed_in(self):
        handed = [(0, "a", (2, 3)), (1, "b", (0, 1))]
        made = Machine(2, handed)
        handed.append((0, "b", (1, 1)))
        handed[0] = None
        self.assertEqual(made.steps, [(0, "a", (2, 3)), (1, "b", (0, 1))])
        handed.clear()
        self.assertEqual(made.steps, [(0, "a", (2, 3)), (1, "b", (0, 1))])

    def test_two_of_one_list(self):
        handed = [(0, "a", (2, 3))]
        one, other = Machine(2, handed), Machine(2, handed)
        self.assertIsNot(one.steps, other.steps)


class Refused(unittest.TestCase):

    def refuse(self, part, many, steps):
        before = plain((many, steps))
        with self.assertRaises(errors.FarError) as caught:
            Machine(many, steps)
        self.assertIs(type(caught.exception), errors.NoMachine)
        self.assertEqual(caught.exception.part, part)
        self.assertEqual(plain((many, steps)), before)

    def no_steps(self):
        """What is no step of a machine of two rooms, whatever stands beside it."""
        spoilt = [
            (), (0,), (0, "a"), (0, "a", (1, 1), 0), (0, "a", (1, 1), None), [0, "a", (1, 1)], {0: 0, 1: "a", 2: (1, 1)},
            (2, "a", (1, 1)), (-1, "a", (1, 1)), (12, "a", (1, 1)), (FORTY, "a", (1, 1)), (0, "a", [1, 1]), (0, "a", {1, 2}),
            (0, "a", (1,)), (0, "a", ()), (0, "a", (1, 1, 1)), (0, "a", (1, 1, 0)), (0, "a", (0, 0)), (0, "a", (-1, 2)),
            (0, "a", (2, -1)), (0, "a", (-1, -1)), (0, "a", (-1, 0)), (0, "a", (True, 1)), (0, "a", (1, True)),
            (0, "a", (False, 1)), (0, "a", (1, None)), (0, "a", ("1", 1)), (0, "a", (Share(1), 1)), (0, "a", ((1,), 1)),
            (0, "a", (1, Fraction(1))), ("a", 0, (1, 1)), (0, (1, 1), "a"), "0aw", "abc", (0, "a", "11"), (0, "a", b"11"),
            (Share(0), "a", (1, 1)), ("0", "a", (1, 1)), (0, "a", None), (0, "a", 1), (0, "a", range(2)), 0, 1,
        ]
        for sign in ["A", "aB", "abcdefghi", "", "a1", "a b", " ", "-", "a\n", 0, 1, b"a", ["a"], ("a",), None, True, Share(1)]:
            spoilt.append((0, sign, (1, 1)))
        for room in [True, False, None, "", "0", (), (0,), [0]]:
            spoilt.append((room, "a", (1, 1)))
        return spoilt + anything()

    def test_many(self):
        for many in [0, 13, 14, 100, -1, -12, FORTY, -FORTY] + anything() + [Share(1), Share(2), [2], (2,), "2"]:
            self.refuse("many", many, [])
            self.refuse("many", many, [(0, "a", (1,))])

    def test_steps_that_are_no_list(self):
        for steps in anything() + [tuple(GOOD), {0: GOOD[0]}, 0, 1, Share(1), GOOD[0], iter(GOOD), "abc"]:
            if steps != []:
                self.refuse("steps", 2, steps)

    def test_no_step_at_any_place(self):
        Machine(2, GOOD)
        for thing in self.no_steps():
            self.refuse("steps", 2, [thing])
            for at in range(len(GOOD) + 1):
                self.refuse("steps", 2, GOOD[:at] + [thing] + GOOD[at:])

    def test_rooms_and_weights_by_how_many_there_are(self):
        for many in range(1, 13):
            Machine(many, [(many - 1, "a", (1,) * many)])
            self.refuse("steps", many, [(many, "a", (1,) * many)])
            self.refuse("steps", many, [(many - 1, "a", (1,) * (many - 1))])
            self.refuse("steps", many, [(many - 1, "a", (1,) * (many + 1))])
            self.refuse("steps", many, [(many - 1, "a", (0,) * many)])
            for at in range(many):
                weights = [1] * many
                weights[at] = -1
                self.refuse("steps", many, [(0, "a", tuple(weights))])
                weights[at] = True
                self.refuse("steps", many, [(0, "a", tuple(weights))])

    def test_told_twice(self):
        for at, step in enumerate(GOOD):
            self.refuse("steps", 2, GOOD + [step])
            self.refuse("steps", 2, [step] + GOOD)
            self.refuse("steps", 2, GOOD + [step[:2] + ((1, 9),)])
            self.refuse("steps", 2, GOOD[:at] + [step[:2] + ((9, 1),)] + GOOD[at:])

    def test_where_both_are_amiss(self):
        for many in [0, 13, None, True, "2", [2]]:
            for steps in [None, (), "abc", [None], [(0, "A", (1,))], [(5, "a", (1, 1))]]:
                self.refuse("many", many, steps)


class Equal(unittest.TestCase):

    def same(self, one, other):
        self.assertIs(one == other, True)
        self.assertIs(other == one, True)
        self.assertIs(one != other, False)
        self.assertIs(other != one, False)

    def unlike(self, one, other):
        self.assertIs(one == other, False)
        self.assertIs(other == one, False)
        self.assertIs(one != other, True)
        self.assertIs(other != one, True)

    def test_in_another_order_or_some_times_over(self):
        dice = Dice(43)
        for turn in range(40):
            one = some_machine(dice, dice.between(1, 12), ["a", "b", "c"])
            steps = [
                (room, sign, tuple(weight * factor for weight in weights))
                for room, sign, weights in dice.mixed(one.steps) for factor in [dice.one_of([1, 2, 15, FORTY])]
            ]
            self.same(one, Machine(one.many, steps))
        self.same(Machine(3, []), Machine(3, []))

    def test_itself(self):
        one = Machine(2, GOOD)
        self.same(one, one)

    def test_unlike_ones(self):
        one = Machine(2, GOOD)
        for many, steps in [
            (2, GOOD[1:]), (2, GOOD[:2]), (2, []), (2, GOOD + [(1, "a", (1, 1))]), (2, GOOD[:2] + [(0, "b", (3, 2))]),
            (2, GOOD[:2] + [(0, "c", (3, 1))]), (2, GOOD[:2] + [(1, "a", (3, 1))]), (2, GOOD[:2] + [(0, "b", (1, 3))]),
            (3, [(room, sign, weights + (0,)) for room, sign, weights in GOOD]),
        ]:
            self.unlike(one, Machine(many, steps))
        self.unlike(Machine(1, []), Machine(2, []))
        self.unlike(Machine(12, []), Machine(11, []))

    def test_in_a_list(self):
        some = [Machine(1, []), Machine(2, GOOD), Machine(2, [])]
        self.assertTrue(Machine(2, GOOD[::-1]) in some)
        self.assertEqual(some.index(Machine(2, [])), 2)
        self.assertFalse(Machine(3, []) in some)
        self.assertEqual([Machine(1, []), Machine(2, GOOD[::-1]), Machine(2, [])], some)

    def test_nothing_that_is_no_machine(self):
        for made in [Machine(2, GOOD), Machine(1, [(0, "a", (1,))])]:
            for thing in anything() + [(2, GOOD), [2, GOOD], GOOD, made.steps, 1, 2, Share(1), Share(2)]:
                self.unlike(made, thing)


class Menus(unittest.TestCase):

    def test_written_out(self):
        made = machine("3 / 0 b 1 0 0 / 0 a 0 1 2 / 2 zz 1 1 1 / 0 ab 2 0 1")
        self.assertEqual([menu(made, room) for room in range(3)], [["a", "ab", "b"], [], ["zz"]])

    def test_by_dice(self):
        dice = Dice(44)
        for turn in range(40):
            made = some_machine(dice, dice.between(1, 12), ["c", "a", "abc", "b"], 9, 50, 50)
            before = plain(made)
            for room in range(made.many):
                told = menu(made, room)
                self.assertIs(type(told), list)
                self.assertEqual(told, sorted(sign for start, sign, weights in made.steps if start == room))
            self.assertEqual(plain(made), before)

    def test_a_list_of_its_own(self):
        made = machine("2 / 0 a 1 1 / 0 b 1 2")
        told = menu(made, 0)
        told.append("c")
        told[0] = None
        self.assertEqual(menu(made, 0), ["a", "b"])
        self.assertIsNot(menu(made, 0), menu(made, 0))
        self.assertEqual(made.steps, [(0, "a", (1, 1)), (0, "b", (1, 2))])


class Heaps(unittest.TestCase):

    def test_written_out(self):
        made = machine("3 / 0 a 0 1 2 / 2 zz 2 3 1 / 0 ab 2 0 2")
        self.assertEqual(heap(made, 0, "a"), [Share(0), Share(1, 3), Share(2, 3)])
        self.assertEqual(heap(made, 2, "zz"), [Share(1, 3), Share(1, 2), Share(1, 6)])
        self.assertEqual(heap(made, 0, "ab"), [Share(1, 2), Share(0), Share(1, 2)])

    def test_no_such_step(self):
        made = machine("3 / 0 a 0 1 2 / 2 zz 2 3 1")
        for room, sign in [(0, "b"), (0, "zz"), (1, "a"), (1, "zz"), (2, "a"), (2, "z"), (2, "zzz"), (0, "abcdefgh")]:
            self.assertIsNone(heap(made, room, sign))

    def test_by_dice(self):
        dice = Dice(45)
        for turn in range(40):
            made = some_machine(dice, dice.between(1, 12), ["a", "b"], dice.one_of([1, 9, FORTY]))
            before = plain(made)
            for room, sign, weights in made.steps:
                told = heap(made, room, sign)
                self.assertIs(type(told), list)
                self.assertTrue(all(type(share) is Share for share in told))
                self.assertEqual(numbers(told), [Fraction(weight, sum(weights)) for weight in weights])
                self.assertEqual(sum(numbers(told)), 1)
                self.assertTrue(all(math.gcd(share.top, share.bottom) == 1 for share in told))
            self.assertEqual(plain(made), before)

    def test_a_list_of_its_own(self):
        made = machine("2 / 0 a 1 1")
        told = heap(made, 0, "a")
        told.append(None)
        told[0] = None
        self.assertEqual(heap(made, 0, "a"), [Share(1, 2), Share(1, 2)])
        self.assertIsNot(heap(made, 0, "a"), heap(made, 0, "a"))


class NoSuchRoom(unittest.TestCase):

    def setUp(self):
        self.made = machine("3 / 0 a 1 1 0 / 1 b 0 1 1")
        self.no_rooms = anything() + [3, 4, 12, -1, -3, FORTY, -FORTY, Share(0), Share(1), "0", (0,), [0]]
        self.no_signs = [thing for thing in anything() if thing != "a"] + [
            "A", "aB", "abcdefghi", "a1", " a", 0, 1, FORTY, Share(1), ["a"], ("a",), b"a",
        ]

    def refuse(self, refusal, value, thing, asked, *handed):
        before = plain(self.made)
        with self.assertRaises(errors.FarError) as caught:
            asked(self.made, *handed)
        self.assertIs(type(caught.exception), refusal)
        self.assertIs(getattr(caught.exception, value), thing)
        self.assertEqual(plain(self.made), before)

    def test_no_room(self):
        for thing in self.no_rooms:
            self.refuse(errors.NoRoom, "room", thing, menu, thing)
            self.refuse(errors.NoRoom, "room", thing, heap, thing, "a")
            self.refuse(errors.NoRoom, "room", thing, heap, thing, "zz")

    def test_the_first_number_behind_the_last(self):
        for many in range(1, 13):
            self.made = Machine(many, [])
            self.assertEqual(menu(self.made, many - 1), [])
            self.refuse(errors.NoRoom, "room", many, menu, many)
            self.refuse(errors.NoRoom, "room", many, heap, many, "a")

    def test_no_sign(self):
        for thing in self.no_signs:
            for room in range(3):
                self.refuse(errors.NoSign, "sign", thing, heap, room, thing)

    def test_where_both_are_amiss(self):
        for room in self.no_rooms:
            for sign in ["A", None, 0, ()]:
                self.refuse(errors.NoRoom, "room", room, heap, room, sign)


def walked(whole):
    """The rooms in the order in which they are found, by the document's words, and the machine numbered so."""
    order, at = [0], 0
    while at < len(order):
        for room, sign, weights in sorted(whole.steps):
            if room == order[at]:
                for to, weight in enumerate(weights):
                    if weight and to not in order:
                        order.append(to)
        at += 1
    steps = [
        (order.index(room), sign, tuple(weights[to] for to in order))
        for room, sign, weights in whole.steps if room in order
    ]
    return Machine(len(order), steps)


class Trimmed(unittest.TestCase):

    def test_written_out(self):
        for before, behind in [
            ("1", "1"),
            ("1 / 0 a 1", "1 / 0 a 1"),
            ("5", "1"),
            ("2 / 1 a 1 1", "1"),
            ("2 / 0 a 1 0 / 1 a 1 1", "1 / 0 a 1"),
            ("2 / 0 a 0 1", "2 / 0 a 0 1"),
            ("3 / 0 a 0 0 1 / 1 b 1 1 1", "2 / 0 a 0 1"),
            ("3 / 0 a 0 0 1 / 2 a 0 1 0", "3 / 0 a 0 1 0 / 1 a 0 0 1"),
            ("4 / 0 b 0 1 0 0 / 0 a 0 0 0 1 / 3 c 0 0 1 2", "4 / 0 a 0 1 0 0 / 0 b 0 0 1 0 / 1 c 0 2 0 1"),
            ("4 / 0 a 0 0 3 1 / 2 a 1 0 0 0 / 3 b 0 0 1 1 / 1 a 1 1 1 1", "3 / 0 a 0 3 1 / 1 a 1 0 0 / 2 b 0 1 1"),
        ]:
            self.assertEqual(trimmed(machine(before)), machine(behind), before)

    def test_rooms_are_gone_through_by_their_numbers(self):
        """Room 4 is found first, so what it leads to is numbered ahead of what room 1 leads to."""
        whole = machine("6 / 0 a 0 0 0 0 1 0 / 0 b 0 1 0 0 0 0 / 1 a 0 0 1 0 0 0 / 4 a 0 0 0 1 0 1")
        self.assertEqual(trimmed(whole), machine(
            "6 / 0 a 0 1 0 0 0 0 / 0 b 0 0 1 0 0 0 / 1 a 0 0 0 1 1 0 / 2 a 0 0 0 0 0 1"
        ))

    def test_by_dice(self):
        dice = Dice(46)
        left_out = 0
        for turn in range(150):
            many = dice.between(1, 12)
            whole = some_machine(dice, many, ["a", "b"], 9, dice.one_of([50, 80, 95]), dice.one_of([10, 40]))
            if turn % 3 == 0:
                whole = plain_machine(dice, many, ["a", "b"])
            before = plain(whole)
            told = trimmed(whole)
            self.assertIs(type(told), Machine)
            self.assertEqual(told, walked(whole))
            self.assertEqual(trimmed(told), told)
            self.assertEqual(plain(whole), before)
            self.assertFalse(set(map(id, lists_in(told.steps))) & set(map(id, lists_in(whole.steps))))
            left_out += told.many < many
        self.assertTrue(20 < left_out < 130)

    def test_what_is_led_to_the_rooms_stays(self):
        whole = machine("4 / 0 a 0 2 0 5 / 3 b 1 0 0 2 / 2 a 1 1 1 1")
        told = trimmed(whole)
        self.assertEqual([number(share) for share in heap(told, 0, "a")], [0, Fraction(2, 7), Fraction(5, 7)])
        self.assertEqual([number(share) for share in heap(told, 2, "b")], [Fraction(1, 3), 0, Fraction(2, 3)])


if __name__ == "__main__":
    unittest.main()
