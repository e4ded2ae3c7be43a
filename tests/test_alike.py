"""[4.1] to [4.3]: what is alike, and the least machine."""

import itertools
import unittest
from fractions import Fraction

from farbetween.alike import alike, alike_sets, least
from farbetween.machines import Machine, heap, menu, trimmed
from tests.helper import FORTY, Dice, machine, numbers, plain, plain_machine, some_machine, split_machine, steps_by_sign


def rounds(machines):
    """The sets of all rounds, in their order, by the document's words; rooms are tuples (machine, room)."""
    told = [steps_by_sign(each) for each in machines]
    rooms = [(which, room) for which, each in enumerate(machines) for room in range(each.many)]
    menus = {(which, room): sorted(told[which][room]) for which, room in rooms}
    sets = [[room for room in rooms if menus[room] == signs] for signs, same in itertools.groupby(sorted(menus.values()))]
    passed = [sets]
    while True:
        finer = []
        for together in sets:
            lists = {}
            for which, room in together:
                lists[(which, room)] = [
                    sum((told[which][room][sign][to] for other, to in each if other == which), Fraction(0))
                    for sign in menus[(which, room)] for each in sets
                ]
            for shares, same in itertools.groupby(sorted(lists.values())):
                finer.append([room for room in together if lists[room] == shares])
        if len(finer) == len(sets):
            return passed
        sets = finer
        passed.append(sets)


def sets_of(whole):
    return [[room for which, room in together] for together in rounds([whole])[-1]]


def least_by_words(whole):
    """The least machine, by the sets of the rounds above."""
    small = trimmed(whole)
    sets = sets_of(small)
    sets = [each for each in sets if 0 in each] + [each for each in sets if 0 not in each]
    steps = []
    for at, each in enumerate(sets):
        for room, sign, weights in small.steps:
            if room == each[0]:
                steps.append((at, sign, tuple(sum(weights[to] for to in rooms) for rooms in sets)))
    return Machine(len(sets), steps)


def chain(many, end=""):
    """Rooms one behind the other, told apart only by what the last one can do."""
    steps = [(room, "a", tuple(int(to == room + 1) for to in range(many))) for room in range(many - 1)]
    last = [(many - 1, sign, tuple(int(to == many - 1) for to in range(many))) for sign in end]
    return Machine(many, steps + last)


def turned(dice, whole):
    """The same machine, its rooms but room 0 numbered otherwise and its steps in another order."""
    order = [0] + dice.mixed(range(1, whole.many))
    steps = [(order.index(room), sign, tuple(weights[to] for to in order)) for room, sign, weights in whole.steps]
    return Machine(whole.many, dice.mixed(steps))


def some_machines(dice, turns):
    for turn in range(turns):
        many = dice.between(1, 12)
        signs = dice.one_of([["a"], ["a", "b"], ["b", "a", "ab"]])
        kind = dice.below(4)
        if kind == 0:
            yield plain_machine(dice, many, signs, dice.one_of([0, 5, 30]))
        elif kind == 1:
            yield some_machine(dice, many, signs, dice.one_of([1, 2, FORTY]), dice.one_of([30, 80]), dice.one_of([0, 10, 40]))
        else:
            small = some_machine(dice, dice.between(1, many), signs, dice.one_of([1, 3, FORTY]), 50, dice.one_of([10, 40]))
            yield split_machine(dice, small, many)


class Sets(unittest.TestCase):

    def check(self, whole):
        before = plain(whole)
        told = alike_sets(whole)
        self.assertEqual(plain(whole), before)
        self.assertIs(type(told), list)
        self.assertTrue(all(type(each) is tuple for each in told))
        self.assertTrue(all(type(room) is int for each in told for room in each))
        self.assertEqual(told, sorted(tuple(sorted(each)) for each in sets_of(whole)))
        self.assertEqual([each[0] for each in told], sorted(min(each) for each in told))
        self.assertEqual(sorted(room for each in told for room in each), list(range(whole.many)))
        return told

    def test_written_out(self):
        for text, sets in [
            ("1", [(0,)]),
            ("3", [(0, 1, 2)]),
            ("1 / 0 a 1", [(0,)]),
            ("2 / 0 a 0 1 / 1 a 1 0", [(0, 1)]),
            ("2 / 0 a 0 1 / 1 b 1 0", [(0,), (1,)]),
            ("3 / 0 a 0 1 1 / 1 b 1 0 0 / 2 b 3 0 0", [(0,), (1, 2)]),
            ("3 / 0 a 0 1 1 / 1 b 1 1 0 / 2 b 3 0 0", [(0,), (1,), (2,)]),
            ("4 / 0 a 0 1 1 0 / 3 a 0 2 0 0", [(0, 3), (1, 2)]),
            ("4 / 0 a 0 1 2 3 / 1 a 2 0 0 2 / 2 b 0 0 0 1", [(0,), (1,), (2,), (3,)]),
            ("4 / 0 a 1 1 1 3 / 1 a 2 0 1 3 / 2 a 0 0 3 3", [(0, 1, 2), (3,)]),
        ]:
            self.assertEqual(self.check(machine(text)), sets, text)

    def test_all_alike(self):
        for many in range(1, 13):
            self.assertEqual(self.check(Machine(many, [])), [tuple(range(many))])
            dice = Dice(many)
            full = some_machine(dice, many, ["a", "b"], 9, 40, 0)
            self.assertEqual(self.check(full), [tuple(range(many))])

    def test_none_alike(self):
        for many in range(1, 13):
            self.assertEqual(self.check(chain(many)), [(room,) for room in range(many)])
            self.assertEqual(self.check(chain(many, "b")), [(room,) for room in range(many)])
            signs = ["a", "b", "c", "d"]
            apart = Machine(many, [
                (room, sign, (1,) * many) for room in range(many) for at, sign in enumerate(signs) if room >> at & 1
            ])
            self.assertEqual(self.check(apart), [(room,) for room in range(many)])
            self.assertEqual(len(rounds([apart])), 1)

    def test_in_one_round_and_in_many(self):
        self.assertEqual(len(rounds([machine("3 / 0 a 1 1 1 / 1 a 0 2 1 / 2 b 1 0 0")])), 1)
        self.assertEqual(len(rounds([machine("3 / 0 a 1 1 1 / 1 a 0 1 1 / 2 b 1 0 0")])), 2)
        self.assertEqual(len(rounds([chain(12)])), 11)
        for many in range(1, 13):
            self.check(chain(many, "a"))

    def test_parted_by_a_share_alone(self):
        """Rooms that lead to the same sets, but not as often."""
        for weights in [(0, 0, 1, 2), (0, 0, FORTY, FORTY + 1), (0, 0, 0, 1)]:
            made = Machine(4, [(0, "a", (0, 0, 1, 1)), (1, "a", weights), (2, "b", (0, 0, 1, 0))])
            self.assertEqual(self.check(made), [(0,), (1,), (2,), (3,)])

    def test_by_the_order_of_signs_nothing_is_mixed(self):
        """Two signs that lead the other way round are not alike."""
        made = machine("4 / 0 a 0 0 1 0 / 0 b 0 0 0 1 / 1 a 0 0 0 1 / 1 b 0 0 1 0 / 2 c 1 0 0 0")
        self.assertEqual(self.check(made), [(0,), (1,), (2,), (3,)])

    def test_rooms_that_cannot_be_come_to_are_told_too(self):
        self.assertEqual(self.check(machine("4 / 0 a 1 0 0 0 / 2 a 0 0 1 0")), [(0, 2), (1, 3)])

    def test_by_dice(self):
        dice = Dice(51)
        parted = {}
        for whole in some_machines(dice, 200):
            parted[len(rounds([whole]))] = parted.get(len(rounds([whole])), 0) + 1
            self.check(whole)
        self.assertTrue(len(parted) > 3, parted)

    def test_a_list_of_its_own(self):
        made = machine("3 / 0 a 0 1 1")
        told = alike_sets(made)
        told.clear()
        self.assertEqual(alike_sets(made), [(0,), (1, 2)])


class Alike(unittest.TestCase):

    def check(self, one, other):
        before = plain((one, other))
        told = alike(one, other)
        self.assertIs(alike(other, one), told)
        self.assertEqual(plain((one, other)), before)
        last = rounds([one, other])[-1]
        self.assertIs(told, any((0, 0) in each and (1, 0) in each for each in last))
        self.assertIs(least(one) == least(other), told)
        return told

    def test_written_out(self):
        for one, other, told in [
            ("1", "1", True),
            ("1", "5 / 1 a 1 1 1 1 1", True),
            ("1", "1 / 0 a 1", False),
            ("1 / 0 a 1", "2 / 0 a 0 1 / 1 a 1 0", True),
            ("1 / 0 a 1", "2 / 0 a 0 1 / 1 b 1 0", False),
            ("1 / 0 a 1", "1 / 0 b 1", False),
            ("1 / 0 a 1", "1 / 0 a 1 / 0 b 1", False),
            ("2 / 0 a 1 1", "2 / 0 a 2 2", True),
            ("2 / 0 a 1 1", "2 / 0 a 1 2", False),
            ("2 / 0 a 1 1", "3 / 0 a 2 1 1", True),
            ("2 / 0 a 1 1", "4 / 0 a 1 1 2 0 / 2 a 2 1 0 1", False),
            ("2 / 0 a 1 1", "4 / 0 a 1 1 1 1 / 2 a 2 1 0 1", True),
            ("2 / 0 a 1 1 / 1 b 1 0", "2 / 0 a 1 1 / 1 c 1 0", False),
        ]:
            self.assertIs(self.check(machine(one), machine(other)), told, (one, other))

    def test_itself(self):
        dice = Dice(52)
        for whole in some_machines(dice, 40):
            self.assertIs(self.check(whole, whole), True)

    def test_of_unlike_numbers_of_rooms(self):
        dice = Dice(53)
        for turn in range(60):
            small = some_machine(dice, dice.between(1, 6), ["a", "b"], dice.one_of([1, 5, FORTY]), 40, 20)
            large = split_machine(dice, small, dice.between(small.many, 12))
            self.assertIs(self.check(small, large), True)
            self.assertIs(self.check(large, split_machine(dice, small, dice.between(small.many, 12))), True)

    def test_that_differ_only_far_behind(self):
        for many in range(2, 13):
            self.assertIs(self.check(chain(many), chain(many)), True)
            self.assertIs(self.check(chain(many), chain(many, "b")), False)
            self.assertIs(self.check(chain(many, "a"), chain(many, "b")), False)
            self.assertIs(self.check(chain(many), chain(many - 1)), False)
            self.assertIs(self.check(chain(many, "a"), chain(many - 1, "a")), True)

    def test_far_behind_and_seldom(self):
        for bit in [1, 7]:
            steps = [(room, "a", tuple(FORTY * (to == room + 1) + (to == 0) for to in range(6))) for room in range(5)]
            one = Machine(6, steps + [(5, "b", (1, 0, 0, 0, 0, FORTY))])
            other = Machine(6, steps + [(5, "b", (1 + bit, 0, 0, 0, 0, FORTY))])
            self.assertIs(self.check(one, other), False)

    def test_other_rooms_do_not_count(self):
        one, other = machine("3 / 0 a 1 1 0 / 2 b 1 1 1"), machine("4 / 0 a 1 0 0 1 / 1 c 1 1 1 1 / 2 a 0 0 1 0")
        self.assertIs(self.check(one, other), True)

    def test_by_dice(self):
        dice = Dice(54)
        some = list(some_machines(dice, 60))
        told = [self.check(one, other) for one, other in zip(some, some[1:])]
        small = [plain_machine(dice, dice.between(1, 4), ["a", "b"], 15) for turn in range(25)]
        told += [self.check(one, other) for one in small for other in small]
        self.assertTrue(60 < sum(told) < len(told) - 60, sum(told))


class Least(unittest.TestCase):

    def check(self, whole):
        before = plain(whole)
        told = least(whole)
        self.assertEqual(plain(whole), before)
        self.assertIs(type(told), Machine)
        self.assertEqual(told, least_by_words(whole))
        self.assertEqual(least(told), told)
        self.assertEqual(len(alike_sets(told)), told.many)
        self.assertEqual(trimmed(told).many, told.many)
        self.assertIs(alike(told, whole), True)
        return told

    def test_written_out(self):
        for text, small in [
            ("1", "1"),
            ("7", "1"),
            ("1 / 0 a 3", "1 / 0 a 1"),
            ("2 / 0 a 0 1 / 1 a 1 0", "1 / 0 a 1"),
            ("2 / 0 a 1 1", "2 / 0 a 1 1"),
            ("3 / 0 a 1 2 3", "2 / 0 a 1 5"),
            ("3 / 0 a 0 1 0 / 2 b 1 1 1", "2 / 0 a 0 1"),
            ("3 / 0 a 0 1 1 / 1 b 1 1 0 / 2 b 2 0 2", "2 / 0 a 0 1 / 1 b 1 1"),
            ("4 / 0 a 1 2 2 1 / 1 b 1 1 0 0 / 2 b 3 1 2 0", "3 / 0 a 1 1 4 / 2 b 1 0 1"),
        ]:
            self.assertEqual(self.check(machine(text)), machine(small), text)

    def test_room_nought_goes_first_whatever_its_menu(self):
        whole = machine("3 / 0 c 0 1 1 / 1 b 1 0 0 / 2 a 0 1 0")
        self.assertEqual(self.check(whole), machine("3 / 0 c 0 1 1 / 1 a 0 0 1 / 2 b 1 0 0"))

    def test_the_others_by_their_menus(self):
        whole = machine("5 / 0 z 0 1 1 1 1 / 1 b 1 0 0 0 0 / 3 a 1 0 0 0 0 / 3 c 1 0 0 0 0 / 4 a 1 0 0 0 0")
        told = self.check(whole)
        self.assertEqual([menu(told, room) for room in range(5)], [["z"], [], ["a"], ["a", "c"], ["b"]])

    def test_the_others_by_the_lesser_share(self):
        """Rooms 1 to 3 have one menu; how often they lead to room 4, without steps, puts them in order."""
        whole = machine("5 / 0 z 0 1 1 1 0 / 1 a 1 0 0 0 1 / 2 a 3 0 0 0 1 / 3 a 1 0 0 0 3")
        told = self.check(whole)
        self.assertEqual([numbers(heap(told, room, "a"))[1] for room in [2, 3, 4]], [Fraction(1, 4), Fraction(1, 2), Fraction(3, 4)])
        self.assertEqual(menu(told, 1), [])

    def test_rooms_that_cannot_be_come_to(self):
        whole = machine("4 / 0 a 1 0 1 0 / 1 b 1 1 1 1 / 2 a 2 0 0 0 / 3 a 1 1 1 1")
        self.assertEqual(self.check(whole), machine("1 / 0 a 1"))

    def test_what_cannot_be_come_to_parts_nothing(self):
        one = machine("3 / 0 a 0 1 1 / 1 b 0 1 0 / 2 b 0 0 1")
        other = machine("4 / 0 a 0 1 1 0 / 1 b 0 1 0 0 / 2 b 0 0 1 0 / 3 b 1 0 0 0 / 3 a 1 1 0 0")
        self.assertEqual(self.check(one), self.check(other))

    def test_of_a_chain(self):
        for many in range(1, 13):
            told = self.check(chain(many, "b"))
            self.assertEqual(told.many, many)

    def test_alike_machines_have_the_same(self):
        dice = Dice(55)
        for turn in range(80):
            small = some_machine(dice, dice.between(1, 6), ["a", "b"], dice.one_of([1, 5, FORTY]), 50, 20)
            told = self.check(small)
            for again in range(3):
                other = split_machine(dice, small, dice.between(small.many, 12))
                self.assertEqual(self.check(other), told)
                self.assertEqual(self.check(turned(dice, other)), told)
            self.assertEqual(self.check(turned(dice, small)), told)

    def test_by_dice(self):
        dice = Dice(56)
        for whole in some_machines(dice, 120):
            self.check(whole)


if __name__ == "__main__":
    unittest.main()
