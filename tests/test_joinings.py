"""[9.1] to [9.5]: joinings, the rooms of what they tell numbered as found."""

import unittest
from fractions import Fraction

from farbetween import errors
from farbetween.joinings import ahead, beside, only, rename, stop, toss
from farbetween.machines import Machine, trimmed
from farbetween.shares import Share
from tests.helper import FORTY, Dice, anything, machine, no_signs, plain, some_machine, steps_by_sign


def chain(many, sign="a"):
    """A machine of so many rooms that goes from one to the next by a sign."""
    return Machine(many, [(at, sign, tuple(int(to == at + 1) for to in range(many))) for at in range(many - 1)])


def as_found(first, doors):
    """A tuple (things, steps): things as found, and for each a dict from signs to Fractions by things.

    doors tells, for a thing, a dict from signs to lists of tuples (thing, Fraction), in the document's order.
    """
    things, steps = [first], []
    for thing in things:
        steps.append({})
        for sign, goals in sorted(doors(thing).items()):
            led = {}
            for goal, part in goals:
                if part > 0:
                    led[goal] = led.get(goal, Fraction(0)) + part
                    if goal not in things:
                        things.append(goal)
            steps[-1][sign] = led
    return things, steps


def of_machine(mark, whole):
    """The doors of a machine's rooms, each room marked."""
    steps = steps_by_sign(whole)
    return lambda room: {sign: [((mark, to), part) for to, part in enumerate(led)] for sign, led in steps[room].items()}


def of_both(shared, one, other):
    """The doors of pairs of rooms, by shares and not by weights."""
    ours, theirs = steps_by_sign(one), steps_by_sign(other)

    def doors(pair):
        x, y = pair
        told = {}
        for sign in set(ours[x]) | set(theirs[y]):
            here = [((to, y), part) for to, part in enumerate(ours[x].get(sign, []))]
            there = [((x, to), part) for to, part in enumerate(theirs[y].get(sign, []))]
            if sign in shared and here and there:
                told[sign] = [((a, b), part * other) for (a, y0), part in here for (x0, b), other in there]
            elif sign not in shared:
                often = Fraction(1, 2) if here and there else 1
                told[sign] = [(goal, part * often) for goal, part in here + there]
        return told

    return doors


class Joined(unittest.TestCase):

    def ask(self, joining, *handed):
        before = plain(handed)
        told = joining(*handed)
        self.assertEqual(plain(handed), before)
        self.assertIs(type(told), Machine)
        self.assertEqual(told, trimmed(told), "numbered as found")
        self.assertEqual(plain(joining(*handed)), plain(told))
        return told

    def look(self, joining, handed, first, doors):
        """Whether a joining tells what is found in the test, or refuses it where that has more than twelve rooms."""
        things, steps = as_found(first, doors)
        if len(things) > 12:
            with self.assertRaises(errors.TooMany):
                joining(*handed)
            return False
        told = self.ask(joining, *handed)
        self.assertEqual(told.many, len(things))
        self.assertEqual(steps_by_sign(told), [
            {sign: [led.get(thing, 0) for thing in things] for sign, led in by_sign.items()} for by_sign in steps
        ])
        return True


class Stop(Joined):

    def test_stop(self):
        self.assertEqual(self.ask(stop), Machine(1, []))
        told = stop()
        told.steps.append("x")
        self.assertEqual(stop(), Machine(1, []))


class Ahead(Joined):

    def test_written_out(self):
        self.assertEqual(self.ask(ahead, "a", stop()), machine("2 / 0 a 0 1"))
        self.assertEqual(self.ask(ahead, "b", machine("2 / 0 a 1 3")), machine("3 / 0 b 0 1 0 / 1 a 0 1 3"))
        self.assertEqual(self.ask(ahead, "abcdefgh", machine("1 / 0 a 1")), machine("2 / 0 abcdefgh 0 1 / 1 a 0 1"))

    def test_the_first_thing_is_none_of_the_machines_rooms(self):
        self.assertEqual(self.ask(ahead, "a", machine("1 / 0 a 1")), machine("2 / 0 a 0 1 / 1 a 0 1"))

    def test_rooms_are_numbered_as_found(self):
        whole = machine("4 / 0 a 0 0 1 1 / 0 b 0 1 0 0 / 2 c 1 0 0 0")
        self.assertEqual(self.ask(ahead, "z", whole), machine("5 / 0 z 0 1 0 0 0 / 1 a 0 0 1 1 0 / 1 b 0 0 0 0 1 / 2 c 0 1 0 0 0"))

    def test_rooms_that_cannot_be_come_to_are_left_out(self):
        self.assertEqual(self.ask(ahead, "z", machine("3 / 0 a 0 0 1 / 1 b 1 1 1")), machine("3 / 0 z 0 1 0 / 1 a 0 0 1"))
        self.assertEqual(self.ask(ahead, "z", Machine(12, [])), machine("2 / 0 z 0 1"))

    def test_twelve_rooms_and_thirteen(self):
        self.assertEqual(len(self.ask(ahead, "z", chain(11))), 12)
        with self.assertRaises(errors.TooMany):
            ahead("z", chain(12))

    def test_by_dice(self):
        dice = Dice(901)
        for turn in range(40):
            whole = some_machine(dice, dice.between(1, 12), "abc", 9, 70)
            rooms = of_machine("m", whole)
            doors = lambda thing: rooms(thing[1]) if thing else {"b": [(("m", 0), Fraction(1))]}
            self.look(ahead, ("b", whole), (), doors)


class Toss(Joined):

    def test_written_out(self):
        self.assertEqual(self.ask(toss, "a", (1, 2), stop(), stop()), machine("3 / 0 a 0 1 2"))
        one, other = machine("2 / 0 b 1 1"), machine("1 / 0 a 1")
        self.assertEqual(self.ask(toss, "c", (3, 1), one, other), machine("4 / 0 c 0 3 1 0 / 1 b 0 1 0 1 / 2 a 0 0 1 0"))
        self.assertEqual(self.ask(toss, "c", (3, 1), other, one), machine("4 / 0 c 0 3 1 0 / 1 a 0 1 0 0 / 2 b 0 0 1 1"))

    def test_both_rooms_are_found_ahead_of_all_others(self):
        one, other = machine("2 / 0 a 0 1"), machine("2 / 0 a 0 1 / 1 b 1 0")
        self.assertEqual(
            self.ask(toss, "a", (1, 1), one, other), machine("5 / 0 a 0 1 1 0 0 / 1 a 0 0 0 1 0 / 2 a 0 0 0 0 1 / 4 b 0 0 1 0 0")
        )

    def test_weights_in_lowest_terms(self):
        self.assertEqual(self.ask(toss, "a", (1000, 500), stop(), stop()), machine("3 / 0 a 0 2 1"))
        self.assertEqual(self.ask(toss, "a", (1000, 1), stop(), stop()), machine("3 / 0 a 0 1000 1"))
        self.assertEqual(self.ask(toss, "a", (1, 1000), stop(), stop()), machine("3 / 0 a 0 1 1000"))

    def test_one_machine_with_itself(self):
        """Its rooms are never one: there are twice as many."""
        one = machine("2 / 0 a 1 1")
        self.assertEqual(
            self.ask(toss, "a", (2, 1), one, one), machine("5 / 0 a 0 2 1 0 0 / 1 a 0 1 0 1 0 / 2 a 0 0 1 0 1")
        )

    def test_twelve_rooms_and_thirteen(self):
        self.assertEqual(len(self.ask(toss, "z", (1, 1), chain(5), chain(6))), 12)
        self.assertEqual(len(self.ask(toss, "z", (1, 1), chain(10), Machine(12, []))), 12)
        for many in range(1, 12):
            with self.assertRaises(errors.TooMany):
                toss("z", (1, 1), chain(many), chain(12 - many))

    def test_by_dice(self):
        dice = Dice(902)
        for turn in range(40):
            one, other = some_machine(dice, dice.between(1, 6), "abc", 9, 60), some_machine(dice, dice.between(1, 6), "abc", 9, 60)
            left, right = dice.between(1, 1000), dice.between(1, 1000)
            rooms = {"one": of_machine("one", one), "other": of_machine("other", other)}
            goals = [(("one", 0), Fraction(left, left + right)), (("other", 0), Fraction(right, left + right))]
            self.look(toss, ("b", (left, right), one, other), (), lambda thing: rooms[thing[0]](thing[1]) if thing else {"b": goals})


class Beside(Joined):

    def test_shared_signs(self):
        """Both can do a; b the one alone; c the other one alone; d none."""
        one, other = machine("2 / 0 a 0 1 / 0 b 0 1"), machine("2 / 0 a 1 2 / 0 c 0 1")
        self.assertEqual(self.ask(beside, ["a", "b", "c", "d"], one, other), machine("3 / 0 a 0 1 2"))
        self.assertEqual(self.ask(beside, ["d", "c", "b", "a"], other, one), machine("3 / 0 a 0 1 2"))

    def test_both_at_once_pairs_in_order(self):
        one, other = machine("2 / 0 a 1 2"), machine("2 / 0 a 3 4")
        self.assertEqual(self.ask(beside, ["a"], one, other), machine("4 / 0 a 3 4 6 8"))
        self.assertEqual(self.ask(beside, ["a"], other, one), machine("4 / 0 a 3 6 4 8"))

    def test_other_signs_that_one_can_do(self):
        one, other = machine("2 / 0 a 0 1"), machine("2 / 0 b 1 2")
        self.assertEqual(
            self.ask(beside, [], one, other), machine("4 / 0 a 0 1 0 0 / 0 b 1 0 2 0 / 1 b 0 1 0 2 / 2 a 0 0 0 1")
        )

    def test_other_signs_that_both_can_do(self):
        """Weights times the other one's sum; those that lead to one pair, both staying, are added."""
        one, other = machine("2 / 0 a 1 2"), machine("2 / 0 a 1 4")
        told = self.ask(beside, [], one, other)
        self.assertEqual(told, machine("4 / 0 a 8 10 12 0 / 1 a 0 1 0 4 / 2 a 0 0 1 2"))
        self.assertEqual(told.steps[0], (0, "a", (4, 5, 6, 0)))

    def test_as_often_the_one_as_the_other(self):
        one, other = machine("2 / 0 a 0 1"), machine("3 / 0 a 0 1 1")
        self.assertEqual(
            self.ask(beside, [], one, other),
            machine("6 / 0 a 0 2 1 1 0 0 / 1 a 0 0 0 0 1 1 / 2 a 0 0 0 0 1 0 / 3 a 0 0 0 0 0 1"),
        )

    def test_shared_and_others_at_once(self):
        one, other = machine("2 / 0 a 0 1 / 1 b 1 0"), machine("2 / 0 a 0 1 / 0 b 1 1")
        self.assertEqual(self.ask(beside, ["a"], one, other), machine("3 / 0 a 0 1 0 / 0 b 1 0 1 / 1 b 0 0 1"))

    def test_an_empty_list_shared(self):
        self.assertEqual(self.ask(beside, [], machine("1 / 0 a 1"), machine("1 / 0 a 1")), machine("1 / 0 a 1"))
        self.assertEqual(self.ask(beside, [], stop(), stop()), stop())
        self.assertEqual(self.ask(beside, [], machine("2 / 0 a 1 3"), stop()), machine("2 / 0 a 1 3"))
        self.assertEqual(self.ask(beside, [], stop(), machine("2 / 0 a 1 3")), machine("2 / 0 a 1 3"))

    def test_a_shared_sign_stops_one_that_could(self):
        self.assertEqual(self.ask(beside, ["a"], machine("2 / 0 a 1 3"), stop()), stop())
        self.assertEqual(self.ask(beside, ["a"], stop(), machine("2 / 0 a 1 3")), stop())

    def test_rooms_that_cannot_be_come_to_are_left_out(self):
        one, other = machine("3 / 0 a 1 0 1 / 1 b 1 1 1"), machine("4 / 0 a 0 0 0 1 / 1 c 1 1 1 1")
        self.assertEqual(self.ask(beside, ["a"], one, other), machine("3 / 0 a 0 1 1"))
        self.assertEqual(self.ask(beside, ["a"], Machine(12, []), Machine(12, [])), stop())

    def test_a_machine_beside_itself(self):
        one = machine("2 / 0 a 0 1 / 1 b 1 0")
        self.assertEqual(self.ask(beside, ["a", "b"], one, one), one)
        self.assertEqual(len(self.ask(beside, [], one, one)), 4)

    def test_twelve_rooms_and_thirteen(self):
        for many, more in [(3, 4), (4, 3), (2, 6), (6, 2), (12, 1), (1, 12)]:
            self.assertEqual(len(self.ask(beside, [], chain(many), chain(more, "b"))), 12)
        for many, more in [(5, 3), (3, 5), (2, 7), (7, 2), (12, 2), (12, 12)]:
            with self.assertRaises(errors.TooMany):
                beside([], chain(many), chain(more, "b"))
        self.assertEqual(len(self.ask(beside, ["a"], chain(12), chain(12))), 12)
        one = machine("4 / 0 a 1 1 1 1 / 1 b 1 1 1 1")
        with self.assertRaises(errors.TooMany):
            beside(["a"], one, one)
        self.assertEqual(len(self.ask(beside, ["a"], one, machine("3 / 0 a 1 1 1"))), 12)

    def test_just_thirteen(self):
        """Three rooms by four make twelve pairs; a thirteenth comes of one room more that one pair alone leads to."""
        one = machine("4 / 0 a 0 1 0 0 / 1 a 0 0 1 0 / 2 c 0 0 0 1")
        other = machine("4 / 0 b 0 1 0 0 / 1 b 0 0 1 0 / 2 b 0 0 0 1 / 3 c 0 0 0 1")
        with self.assertRaises(errors.TooMany):
            beside(["c"], one, other)
        self.assertEqual(len(self.ask(beside, ["c", "d"], one, machine("4 / 0 b 0 1 0 0 / 1 b 0 0 1 0 / 2 b 0 0 0 1"))), 12)

    def test_weights_of_great_size(self):
        one, other = Machine(2, [(0, "a", (FORTY, 1)), (0, "b", (1, FORTY))]), Machine(2, [(0, "a", (3, FORTY)), (0, "b", (2, 5))])
        self.look(beside, (["a"], one, other), (0, 0), of_both(["a"], one, other))
        self.look(beside, ([], one, other), (0, 0), of_both([], one, other))

    def test_by_dice(self):
        dice = Dice(903)
        let_by = 0
        for turn in range(150):
            many = dice.between(1, 4)
            one, other = some_machine(dice, many, "abcd", 9, 60), some_machine(dice, dice.between(1, min(12, 14 // many)), "bcde", 9, 60)
            shared = dice.mixed("abcdef")[:dice.between(0, 6)]
            if turn % 2:
                one, other = other, one
            let_by += self.look(beside, (shared, one, other), (0, 0), of_both(shared, one, other))
        self.assertGreater(let_by, 100)


class Only(Joined):

    def test_written_out(self):
        whole = machine("3 / 0 a 0 1 0 / 0 b 0 0 1 / 1 b 1 0 0 / 2 a 1 1 0")
        self.assertEqual(self.ask(only, ["a", "b"], whole), whole)
        self.assertEqual(self.ask(only, ["b", "a", "c"], whole), whole)
        self.assertEqual(self.ask(only, ["a"], whole), machine("2 / 0 a 0 1"))
        self.assertEqual(self.ask(only, ["b"], whole), machine("2 / 0 b 0 1"))

    def test_signs_that_the_machine_has_not_and_none(self):
        whole = machine("3 / 0 a 0 1 0 / 0 b 0 0 1 / 1 b 1 0 0 / 2 a 1 1 0")
        for signs in [[], ["c"], ["aa", "ab"]]:
            self.assertEqual(self.ask(only, signs, whole), stop())

    def test_rooms_that_cannot_be_come_to_are_left_out(self):
        self.assertEqual(self.ask(only, ["a", "b"], machine("3 / 0 a 0 0 1 / 1 b 1 1 1")), machine("2 / 0 a 0 1"))

    def test_rooms_are_numbered_as_found(self):
        whole = machine("4 / 0 a 0 1 0 0 / 0 b 0 0 0 1 / 3 b 1 0 2 0 / 1 c 1 1 1 1")
        self.assertEqual(self.ask(only, ["b", "c"], whole), machine("3 / 0 b 0 1 0 / 1 b 1 0 2"))

    def test_by_dice(self):
        dice = Dice(904)
        for turn in range(40):
            whole = some_machine(dice, dice.between(1, 12), "abcd", 9, 70)
            signs = dice.mixed("abcdef")[:dice.between(0, 4)]
            rooms = of_machine("m", whole)
            doors = lambda thing: {sign: goals for sign, goals in rooms(thing[1]).items() if sign in signs}
            self.assertTrue(self.look(only, (signs, whole), ("m", 0), doors))


class Rename(Joined):

    def test_written_out(self):
        whole = machine("2 / 0 a 0 1 / 1 b 1 0")
        self.assertEqual(self.ask(rename, [("a", "c")], whole), machine("2 / 0 c 0 1 / 1 b 1 0"))
        self.assertEqual(self.ask(rename, [("a", "c"), ("b", "a")], whole), machine("2 / 0 c 0 1 / 1 a 1 0"))
        self.assertEqual(self.ask(rename, [], whole), whole)

    def test_rings(self):
        whole = machine("2 / 0 a 0 1 / 0 b 1 0 / 0 c 1 1")
        self.assertEqual(self.ask(rename, [("a", "b"), ("b", "a")], whole), machine("2 / 0 b 0 1 / 0 a 1 0 / 0 c 1 1"))
        self.assertEqual(
            self.ask(rename, [("a", "b"), ("b", "c"), ("c", "a")], whole), machine("2 / 0 b 0 1 / 0 c 1 0 / 0 a 1 1")
        )
        self.assertEqual(self.ask(rename, [("a", "a"), ("c", "c")], whole), whole)

    def test_signs_that_are_not_there(self):
        whole = machine("2 / 0 a 0 1")
        self.assertEqual(self.ask(rename, [("b", "c"), ("d", "e")], whole), whole)
        self.assertEqual(self.ask(rename, [("b", "a")], whole), whole)
        self.assertEqual(self.ask(rename, [("b", "a"), ("a", "b")], whole), machine("2 / 0 b 0 1"))

    def test_rooms_are_numbered_as_found_by_the_newer_names(self):
        whole = machine("3 / 0 a 0 1 0 / 0 b 0 0 1 / 1 a 1 0 0")
        self.assertEqual(self.ask(rename, [("a", "z")], whole), machine("3 / 0 b 0 1 0 / 0 z 0 0 1 / 2 z 1 0 0"))

    def test_rooms_that_cannot_be_come_to_are_left_out(self):
        self.assertEqual(self.ask(rename, [("a", "c")], machine("3 / 0 a 0 0 1 / 1 b 1 1 1")), machine("2 / 0 c 0 1"))

    def test_two_signs_that_would_get_one_name(self):
        for text, pairs in [
            ("1 / 0 a 1 / 0 b 1", [("a", "b")]), ("2 / 0 a 0 1 / 1 b 1 1", [("c", "d"), ("b", "a")]),
            ("2 / 0 a 1 0 / 1 b 1 1", [("a", "b")]), ("3 / 1 a 1 0 0 / 2 b 1 1 1", [("a", "b")]),
            ("1 / 0 a 1 / 0 b 1 / 0 c 1", [("a", "b"), ("b", "c")]),
        ]:
            with self.assertRaises(errors.FarError) as caught:
                rename(pairs, machine(text))
            self.assertIs(type(caught.exception), errors.NoSign)
            self.assertIs(caught.exception.sign, pairs)

    def test_by_dice(self):
        dice = Dice(905)
        let_by = 0
        for turn in range(80):
            whole = some_machine(dice, dice.between(1, 12), "abc", 9, 70)
            pairs = list(zip(dice.mixed("abcdef"), dice.mixed("abcdef")))[:dice.between(0, 5)]
            newer = {sign: sign for sign in "abc"} | dict(pairs)
            there = sorted({sign for room, sign, weights in whole.steps})
            if len({newer[sign] for sign in there}) < len(there):
                with self.assertRaises(errors.NoSign):
                    rename(pairs, whole)
                continue
            let_by += 1
            rooms = of_machine("m", whole)
            doors = lambda thing: {newer[sign]: goals for sign, goals in rooms(thing[1]).items()}
            self.assertTrue(self.look(rename, (pairs, whole), ("m", 0), doors))
        self.assertGreater(let_by, 15)


class Refused(unittest.TestCase):

    def setUp(self):
        self.small, self.large = machine("2 / 0 a 1 1 / 0 b 1 1"), chain(12)

    def refuse(self, thing, joining, *handed):
        """Whether it is refused with NoSign, whose value is this very thing."""
        before = plain(handed)
        with self.assertRaises(errors.FarError) as caught:
            joining(*handed)
        self.assertIs(type(caught.exception), errors.NoSign, handed)
        self.assertIs(caught.exception.sign, thing)
        self.assertEqual(plain(handed), before)

    def no_lists_of_signs(self):
        told = [thing for thing in anything() + no_signs() if not isinstance(thing, list) or thing] + [
            "ab", "a,b", ("a", "b"), ("a",), (), {"a": "b"}, {"a", "b"}, ["a", "a"], ["a", "b", "a"], ["a", "B"], ["a", None],
            [("a", "b")], ["a", ["b"]], [""], ["abcdefghi"], ["a", 1], [True], ["a", ("b",)], range(0),
        ]
        return [thing for thing in told if thing not in (["a"],)]

    def no_weights(self):
        return anything() + [
            (0, 1), (1, 0), (1001, 1), (1, 1001), (-1, 1), (1, -1), (1,), (1, 2, 3), (), [1, 2], [1, 1], (True, 1), (1, True),
            (True, True), (False, 1), ("1", "2"), (1, None), (Share(1), 1), ((1, 2),), 1, 12, FORTY, (FORTY, 1), "1 2", {1: 2}, {1, 2},
        ]

    def no_pairs(self):
        told = [thing for thing in anything() + no_signs() if not isinstance(thing, list) or thing] + [
            (("a", "c"),), ("a", "c"), {"a": "c"}, [["a", "c"]], ["ac"], ["a>c"], [("a",)], [("a", "c", "d")], [()], [("a", "C")],
            [("A", "c")], [("a", None)], [(None, "c")], [("a", "c"), ("a", "d")], [("a", "c"), ("b", "c")], [("a", "c"), ("a", "c")],
            [("a", "c"), None], [("a", 1)], [("", "c")], [("a", "")], [("a", "abcdefghi")], ["a", "c"], ["a"], [("a", ("c",))],
        ]
        return told

    def test_signs(self):
        for thing in no_signs():
            self.refuse(thing, ahead, thing, self.small)
            self.refuse(thing, ahead, thing, self.large)
            self.refuse(thing, toss, thing, (1, 1), self.small, self.small)
            self.refuse(thing, toss, thing, (1, 1), self.large, self.large)

    def test_weights(self):
        for thing in self.no_weights():
            if thing != (1, 2):
                self.refuse(thing, toss, "a", thing, self.small, self.small)
                self.refuse(thing, toss, "a", thing, self.large, self.large)

    def test_the_sign_ahead_of_the_weights(self):
        for thing in no_signs():
            for weights in [(0, 1), None, [1, 1], (1001, 1001), "a"]:
                self.refuse(thing, toss, thing, weights, self.small, self.large)

    def test_lists_of_signs(self):
        for thing in self.no_lists_of_signs():
            self.refuse(thing, beside, thing, self.small, self.small)
            self.refuse(thing, beside, thing, self.large, chain(12, "b"))
            self.refuse(thing, only, thing, self.small)

    def test_pairs(self):
        for thing in self.no_pairs():
            self.refuse(thing, rename, thing, self.small)
            self.refuse(thing, rename, thing, self.large)

    def test_too_many_where_nothing_else_is_amiss(self):
        for joining, handed in [
            (ahead, ("a", self.large)), (toss, ("a", (1, 1), self.large, self.small)), (toss, ("a", (1, 1), self.small, self.large)),
            (beside, ([], self.large, chain(2, "b"))), (beside, (["c"], chain(2, "b"), self.large)),
        ]:
            before = plain(handed)
            with self.assertRaises(errors.FarError) as caught:
                joining(*handed)
            self.assertIs(type(caught.exception), errors.TooMany)
            self.assertEqual(plain(handed), before)


class Kept(unittest.TestCase):

    def test_what_is_changed_behind_its_being_handed_in_changes_nothing(self):
        whole = machine("2 / 0 a 0 1 / 1 b 1 0")
        for joining, things in [
            (lambda signs: beside(signs, whole, whole), ["a"]), (lambda signs: only(signs, whole), ["a"]),
            (lambda pairs: rename(pairs, whole), [("a", "c")]),
        ]:
            told = joining(things)
            before = plain(told)
            things.append("b")
            things[0] = None
            self.assertEqual(plain(told), before)

    def test_a_told_machine_has_a_list_of_its_own(self):
        whole = machine("2 / 0 a 0 1 / 1 b 1 0")
        for told in [only(["a", "b"], whole), rename([], whole), beside([], whole, stop()), beside([], stop(), whole)]:
            self.assertEqual(told, whole)
            self.assertIsNot(told.steps, whole.steps)


if __name__ == "__main__":
    unittest.main()
