"""[6.2] to [6.4]: papers from above and from below."""

import unittest
from fractions import Fraction

from farbetween import errors
from farbetween.apart import apart, is_above, is_below, papers
from farbetween.machines import Machine
from farbetween.shares import Share, minus, plus, times
from tests.helper import (
    FORTY, Dice, anything, lists_in, machine, no_fades, number, numbers, plain, plain_machine, shares, some_machine,
    split_machine, steps_by_sign, table
)

HALF = Share(1, 2)
BIT = Share(1, 10 ** 50)
FADES = [HALF, Share(1, 3), Share(9, 10), Share(1, FORTY), Share(FORTY - 1, FORTY)]


def pairs_of(one, other):
    """The pairs of rooms, and for each its menu where it is the same one, else None."""
    ours, theirs = steps_by_sign(one), steps_by_sign(other)
    return [
        (x, y, sorted(ours[x]) if sorted(ours[x]) == sorted(theirs[y]) else None)
        for x in range(one.many) for y in range(other.many)
    ]


def shows_above(paper, fade, one, other, far):
    """Whether this is a paper from above, by sums alone; the things in it being of their kinds."""
    ours, theirs = steps_by_sign(one), steps_by_sign(other)
    pairs = pairs_of(one, other)
    if [row[:3] for row in paper] != [(x, y, sign) for x, y, signs in pairs for sign in signs or []]:
        return False
    if any(signs is None and number(far[x][y]) < 1 for x, y, signs in pairs):
        return False
    for x, y, sign, plan in paper:
        amounts = [numbers(row) for row in plan]
        if min(min(row) for row in amounts) < 0 or [sum(row) for row in amounts] != ours[x][sign]:
            return False
        if [sum(column) for column in zip(*amounts)] != theirs[y][sign]:
            return False
        cost = sum(amount * number(far[at][to]) for at, row in enumerate(amounts) for to, amount in enumerate(row))
        if number(fade) * cost > number(far[x][y]):
            return False
    return True


def shows_below(paper, fade, one, other, far):
    """Whether this is a paper from below, by sums alone; the things in it being of their kinds."""
    ours, theirs = steps_by_sign(one), steps_by_sign(other)
    pairs = pairs_of(one, other)
    wanted = [(x, y) for x, y, signs in pairs if signs is not None and number(far[x][y]) > 0]
    if [row[:2] for row in paper] != wanted:
        return False
    if any(signs is None and number(far[x][y]) > 1 or signs == [] and number(far[x][y]) != 0 for x, y, signs in pairs):
        return False
    for x, y, sign, (here, there) in paper:
        gaps = [number(here[at]) - number(there[to]) - number(far[at][to]) for at in range(one.many) for to in range(other.many)]
        if sign not in ours[x] or max(gaps) > 0:
            return False
        worth = sum(number(price) * share for price, share in zip(here, ours[x][sign]))
        worth -= sum(number(price) * share for price, share in zip(there, theirs[y][sign]))
        if number(fade) * worth < number(far[x][y]):
            return False
    return True


class Agreeing:
    """A thing that says of itself that it is equal to whatever there is."""

    def __eq__(self, other):
        return True


def replaced(things, at, thing):
    """These things, of their own kind, with another one in one place."""
    changed = list(things)
    changed[at] = thing
    return type(things)(changed)


def with_number(far, x, y, share):
    return replaced(far, x, replaced(far[x], y, share))


class Case(unittest.TestCase):

    def setUp(self):
        """Two machines in which pairs of every sort are found."""
        self.fade = HALF
        self.one = machine("3 / 0 a 1 2 1 / 0 b 0 1 1 / 1 a 2 0 1 / 1 b 1 1 0")
        self.other = machine("4 / 0 a 1 1 1 1 / 0 b 1 0 3 0 / 1 a 0 2 1 0 / 1 b 1 1 1 0 / 3 b 1 0 0 0")
        self.far, self.above, self.below = papers(self.fade, self.one, self.other)

    def asked(self, asked, thing, far):
        before = plain((thing, self.fade, self.one, self.other, far), 9)
        told = asked(thing, self.fade, self.one, self.other, far)
        self.assertEqual(plain((thing, self.fade, self.one, self.other, far), 9), before)
        self.assertIs(type(told), bool)
        return told

    def no_above(self, thing, far=None):
        self.assertIs(self.asked(is_above, thing, self.far if far is None else far), False)

    def no_below(self, thing, far=None):
        self.assertIs(self.asked(is_below, thing, self.far if far is None else far), False)


class Told(unittest.TestCase):

    def check(self, fade, one, other):
        before = plain((fade, one, other))
        told = papers(fade, one, other)
        self.assertIs(type(told), tuple)
        self.assertEqual(len(told), 3)
        far, above, below = told
        self.assertEqual(far, apart(fade, one, other))
        self.check_forms(one, other, far, above, below)
        new = [id(each) for each in lists_in(told)]
        self.assertEqual(len(set(new)), len(new))
        self.assertFalse(set(new) & {id(one.steps), id(other.steps)})
        self.assertTrue(shows_above(above, fade, one, other, far))
        self.assertTrue(shows_below(below, fade, one, other, far))
        whole = plain(told, 9)
        self.assertIs(is_above(above, fade, one, other, far), True)
        self.assertIs(is_below(below, fade, one, other, far), True)
        self.assertEqual(plain(told, 9), whole)
        self.assertEqual(plain((fade, one, other)), before)
        self.assertEqual(plain(papers(fade, one, other), 9), whole)
        return told

    def check_forms(self, one, other, far, above, below):
        self.assertEqual([type(far), type(above), type(below)], [list, list, list])
        self.assertEqual([(type(row), len(row)) for row in far], [(list, other.many)] * one.many)
        for row in above + below:
            self.assertIs(type(row), tuple)
            self.assertEqual([type(each) for each in row[:3]], [int, int, str])
        self.assertEqual([row[:3] for row in above], sorted(row[:3] for row in above))
        self.assertEqual([row[:2] for row in below], sorted(row[:2] for row in below))
        for x, y, sign, plan in above:
            self.assertIs(type(plan), list)
            self.assertEqual([(type(row), len(row)) for row in plan], [(list, other.many)] * one.many)
            self.assertTrue(all(type(share) is Share for row in plan for share in row))
        for x, y, sign, prices in below:
            self.assertIs(type(prices), tuple)
            self.assertEqual([(type(side), len(side)) for side in prices], [(list, one.many), (list, other.many)])
            self.assertTrue(all(type(share) is Share for side in prices for share in side))

    def test_without_rows(self):
        self.assertEqual(self.check(HALF, machine("1"), machine("1")), (table("0"), [], []))
        self.assertEqual(self.check(HALF, machine("1 / 0 a 1"), machine("1")), (table("1"), [], []))
        self.assertEqual(self.check(HALF, machine("2"), machine("3")), (table("0 0 0; 0 0 0"), [], []))

    def test_written_out(self):
        self.assertEqual(
            self.check(HALF, machine("1 / 0 a 1"), machine("1 / 0 a 1")), (table("0"), [(0, 0, "a", [[Share(1)]])], [])
        )
        far, above, below = self.check(HALF, machine("2 / 0 a 1 1"), machine("2 / 0 a 1 2"))
        self.assertEqual(far, table("1/10 1; 1 0"))
        self.assertEqual(above, [(0, 0, "a", table("1/3 1/6; 0 1/2"))])
        self.assertEqual([row[:3] for row in below], [(0, 0, "a")])

    def test_by_dice(self):
        dice = Dice(101)
        for turn in range(60):
            signs = dice.one_of(["a", "ab", "abc"])
            size = dice.one_of([1, 3, 20, 10 ** 6])
            one = some_machine(dice, dice.between(1, 6), signs, size, dice.one_of([0, 30, 60]), dice.one_of([5, 20]))
            other = some_machine(dice, dice.between(1, 6), signs, size, dice.one_of([0, 30, 60]), dice.one_of([5, 20]))
            if turn % 4 == 0:
                other = split_machine(dice, one, dice.between(one.many, 6))
            elif turn % 4 == 1:
                one, other = plain_machine(dice, 5, signs, 5), plain_machine(dice, 6, signs, 5)
            self.check(dice.one_of(FADES), one, other)

    def test_a_machine_and_itself(self):
        dice = Dice(102)
        for turn in range(10):
            one = some_machine(dice, dice.between(1, 6), "ab", 5, 40, 10)
            self.check(dice.one_of(FADES), one, one)

    def test_forty_pairs(self):
        dice = Dice(103)
        for many, others in [(4, 10), (8, 5), (1, 12), (12, 3)]:
            one, other = some_machine(dice, many, "ab", 9, 30, 6), some_machine(dice, others, "ab", 9, 30, 6)
            self.check(dice.one_of(FADES), one, other)

    def test_weights_of_great_size(self):
        dice = Dice(104)
        one, other = some_machine(dice, 3, "ab", FORTY, 20, 5), some_machine(dice, 4, "ab", FORTY, 20, 5)
        self.check(Share(9, 10), one, other)

    def test_changed_by_the_caller_the_same_is_told(self):
        one, other = machine("2 / 0 a 1 1 / 0 b 1 3"), machine("2 / 0 a 1 2 / 0 b 1 5")
        told = papers(HALF, one, other)
        before = plain(told, 9)
        for each in lists_in(told):
            each.append(None)
            each[0] = None
        self.assertEqual(plain(papers(HALF, one, other), 9), before)


class Refused(unittest.TestCase):

    def refuse(self, refusal, fade, one, other):
        far, above, below = table("1/10 1; 1 0"), [(0, 0, "a", table("1/3 1/6; 0 1/2"))], []
        for asked, *handed in [
            (papers, fade, one, other), (is_above, above, fade, one, other, far), (is_below, below, fade, one, other, far),
            (is_above, None, fade, one, other, None), (is_below, None, fade, one, other, None),
        ]:
            before = plain(handed, 9)
            with self.assertRaises(errors.FarError) as caught:
                asked(*handed)
            self.assertIs(type(caught.exception), refusal)
            self.assertEqual(plain(handed, 9), before)

    def test_no_fade(self):
        for thing in no_fades():
            self.refuse(errors.NoFade, thing, machine("2 / 0 a 1 1"), machine("2 / 0 a 1 2"))

    def test_too_many(self):
        for many, others in [(6, 7), (7, 6), (4, 11), (12, 4), (12, 12)]:
            self.refuse(errors.TooMany, HALF, Machine(many, []), Machine(others, []))

    def test_no_fade_goes_ahead_of_too_many(self):
        for thing in no_fades():
            self.refuse(errors.NoFade, thing, Machine(12, []), Machine(12, []))


class Above(Case):

    def test_there_are_pairs_of_every_sort(self):
        sorts = [signs for x, y, signs in pairs_of(self.one, self.other)]
        self.assertTrue(None in sorts and [] in sorts and ["a", "b"] in sorts)
        self.assertEqual(len(self.above), 8)
        self.assertTrue(self.asked(is_above, self.above, self.far))

    def test_a_table_set_higher(self):
        """Where all numbers of pairs with the same menu rise by as much, what is carried costs less more than that."""
        for more in [BIT, HALF, Share(7)]:
            higher = [[plus(share, more) for share in row] for row in self.far]
            self.assertTrue(shows_above(self.above, self.fade, self.one, self.other, higher))
            self.assertTrue(self.asked(is_above, self.above, higher))

    def test_another_table_and_other_plans(self):
        """All numbers 1, and whatever plans: none costs more than 1."""
        ones = [[Share(1)] * 4 for x in range(3)]
        spread = []
        for x, y, sign, plan in self.above:
            ours, theirs = steps_by_sign(self.one)[x][sign], steps_by_sign(self.other)[y][sign]
            rows = [[a * b for b in theirs] for a in ours]
            spread.append((x, y, sign, [[Share(each.numerator, each.denominator) for each in row] for row in rows]))
        self.assertTrue(self.asked(is_above, spread, ones))
        self.assertTrue(self.asked(is_above, self.above, ones))
        self.assertFalse(self.asked(is_above, spread, self.far))

    def test_just_enough_and_a_little_less(self):
        """One number at a time, set to just what its plans cost, and to a bit below that."""
        ones = [[Share(1)] * 4 for x in range(3)]
        self.assertTrue(self.asked(is_above, self.above, with_number(ones, 0, 0, HALF)))
        self.assertFalse(self.asked(is_above, self.above, with_number(ones, 0, 0, Share(1, 9))))
        for x, y, sign, plan in self.above:
            self.no_above(self.above, with_number(self.far, x, y, minus(self.far[x][y], BIT)))

    def test_pairs_of_unlike_menus(self):
        for x, y, signs in pairs_of(self.one, self.other):
            if signs is None:
                self.no_above(self.above, with_number(self.far, x, y, minus(Share(1), BIT)))
                self.no_above(self.above, with_number(self.far, x, y, Share(0)))
        one, other = machine("1 / 0 a 1"), machine("1")
        for far, good in [("1", True), ("2", True), ("1/2", False), ("0", False)]:
            self.assertIs(is_above([], HALF, one, other, table(far)), good)

    def test_pairs_of_empty_menus(self):
        for far in ["0", "1/2", "5"]:
            self.assertIs(is_above([], HALF, machine("1"), machine("1"), table(far)), True)

    def test_a_number_a_little_otherwise(self):
        """Against the sums of this test; some are still papers."""
        told = set()
        for x in range(3):
            for y in range(4):
                for share in [plus(self.far[x][y], BIT), minus(self.far[x][y], BIT)]:
                    far = with_number(self.far, x, y, share)
                    good = share.top >= 0 and shows_above(self.above, self.fade, self.one, self.other, far)
                    self.assertIs(self.asked(is_above, self.above, far), good)
                    told.add(good)
        self.assertEqual(told, {True, False})

    def test_rows_left_out_told_twice_or_out_of_order(self):
        many = len(self.above)
        for at, row in enumerate(self.above):
            self.no_above(self.above[:at] + self.above[at + 1:])
            self.no_above(self.above[:at] + [row] + self.above[at:])
            self.no_above(replaced(self.above, at, self.above[at - 1]))
            self.no_above(self.above + [row])
        for at in range(many):
            for to in range(at):
                self.no_above(replaced(replaced(self.above, at, self.above[to]), to, self.above[at]))
        self.no_above(self.above[::-1])
        self.no_above([])
        self.no_above(self.above + self.above)

    def test_other_signs_and_rooms(self):
        for at, (x, y, sign, plan) in enumerate(self.above):
            for other in ["a", "b", "c", "A", "", "ab", 0, None, b"a", ["a"], ("a",), True, Share(1), Agreeing()]:
                if type(other) is not str or other != sign:
                    self.no_above(replaced(self.above, at, (x, y, other, plan)))
            for other in [-1, 0, 1, 2, 3, 4, FORTY, True, False, None, "0", (), Share(0), Share(1), Agreeing()]:
                if other is not x:
                    self.no_above(replaced(self.above, at, (other, y, sign, plan)))
                if other is not y:
                    self.no_above(replaced(self.above, at, (x, other, sign, plan)))

    def test_a_pair_that_is_not_there(self):
        x, y, sign, plan = self.above[-1]
        for row in [(3, 0, "a", plan), (2, 4, "a", plan), (-1, 0, "a", plan), (2, 2, "a", plan), (2, 3, "b", plan)]:
            self.no_above(self.above + [row])
            self.no_above([row] + self.above)

    def test_plans_for_other_heaps(self):
        for at, (x, y, sign, plan) in enumerate(self.above):
            for row in self.above:
                far = [[Share(9)] * 4 for each in range(3)]
                changed = replaced(self.above, at, (x, y, sign, row[3]))
                self.assertIs(self.asked(is_above, changed, far), shows_above(changed, self.fade, self.one, self.other, far))
                if row[3] != plan:
                    self.no_above(changed, far)

    def test_plans_spoilt_by_a_little(self):
        for at, (x, y, sign, plan) in enumerate(self.above):
            for row in range(3):
                for column in range(4):
                    for share in [plus(plan[row][column], BIT), minus(plan[row][column], BIT)]:
                        self.no_above(replaced(self.above, at, (x, y, sign, with_number(plan, row, column, share))))

    def test_a_dearer_plan(self):
        """Amounts carried crosswise instead: still a plan, but one that costs too much."""
        one, other = machine("2 / 0 a 1 1"), machine("2 / 0 a 1 1")
        far = table("0 1; 1 0")
        for text, good in [("1/2 0; 0 1/2", True), ("0 1/2; 1/2 0", False), ("1/4 1/4; 1/4 1/4", False)]:
            self.assertIs(is_above([(0, 0, "a", table(text))], HALF, one, other, far), good)
        self.assertIs(is_above([(0, 0, "a", table("0 1/2; 1/2 0"))], HALF, one, other, table("1/2 1; 1 0")), True)
        self.assertIs(is_above([(0, 0, "a", table("0 1/2; 1/2 0"))], HALF, one, other, table("49/100 1; 1 0")), False)

    def test_other_things_in_the_place_of_shares(self):
        x, y, sign, plan = self.above[0]
        for row in range(3):
            for column in range(4):
                for thing in anything() + [0, 1, Fraction(1, 2), number(plan[row][column])]:
                    self.no_above(replaced(self.above, 0, (x, y, sign, with_number(plan, row, column, thing))))

    def test_plans_of_another_form(self):
        for at, (x, y, sign, plan) in enumerate(self.above):
            for thing in [
                tuple(plan), [tuple(row) for row in plan], plan[:2], plan + [shares("0 0 0 0")], [row[:3] for row in plan],
                [row + [Share(0)] for row in plan], [list(row) for row in zip(*plan)], plan[0] + plan[1] + plan[2], (plan,), [plan],
            ] + anything() + [0, 1, Share(1)]:
                self.no_above(replaced(self.above, at, (x, y, sign, thing)))

    def test_rows_of_another_form(self):
        for at, row in enumerate(self.above):
            for thing in [list(row), row[:3], row + (None,), row[1:], row[:2] + row[3:], (row,), [row], (row[:3], row[3])]:
                self.no_above(replaced(self.above, at, thing))
            for thing in anything() + [0, 1, Share(1), "0a"]:
                self.no_above(replaced(self.above, at, thing))

    def test_papers_of_another_form(self):
        for thing in anything() + [tuple(self.above), {at: row for at, row in enumerate(self.above)}, 0, 1, self.below]:
            self.no_above(thing)

    def test_the_empty_list_is_a_paper_where_no_row_is_wanted(self):
        one, other = machine("1 / 0 a 1"), machine("2 / 0 b 1 0")
        self.assertIs(is_above([], HALF, one, other, table("1 1")), True)
        for thing in anything():
            if thing != []:
                self.assertIs(is_above(thing, HALF, one, other, table("1 1")), False)
        self.assertIs(is_above((), HALF, one, other, table("1 1")), False)


class Tables(Case):
    """Tables that are none such, for both papers."""

    def refuse(self, far):
        self.no_above(self.above, far)
        self.no_below(self.below, far)

    def test_of_another_form(self):
        far = self.far
        for thing in [
            tuple(far), [tuple(row) for row in far], far[:2], far[1:], far + [far[0]], far + [[]], [row[:3] for row in far],
            [row + [Share(1)] for row in far], far[:2] + [far[2][:3]], far[:2] + [far[2] + [Share(1)]], [[], [], []],
            [list(row) for row in zip(*far)], far[0] + far[1] + far[2], {at: row for at, row in enumerate(far)}, [far], 0, 1, Share(1),
        ] + [thing for thing in anything() if thing is not None]:
            self.refuse(thing)
        self.assertIs(is_above(self.above, self.fade, self.one, self.other, None), False)
        self.assertIs(is_below(self.below, self.fade, self.one, self.other, None), False)

    def test_rows_of_another_form(self):
        for at in range(3):
            for thing in anything() + [tuple(self.far[at]), 0, 1, Share(1)]:
                self.refuse(replaced(self.far, at, thing))

    def test_shares_below_nought(self):
        for x in range(3):
            for y in range(4):
                for share in [Share(-1), minus(Share(0), BIT)]:
                    self.refuse(with_number(self.far, x, y, share))

    def test_other_things_in_the_place_of_shares(self):
        for x in range(3):
            for y in range(4):
                for thing in anything() + [0, 1, number(self.far[x][y])]:
                    self.refuse(with_number(self.far, x, y, thing))

    def test_below_nought_where_nothing_else_would_say_so(self):
        """Rooms of empty menus, to which no row and no step leads."""
        one, other = machine("1"), machine("1")
        self.assertIs(is_above([], HALF, one, other, table("-1")), False)
        self.assertIs(is_below([], HALF, one, other, table("-1")), False)
        self.assertIs(is_below([], HALF, machine("1 / 0 a 1"), other, table("-1")), False)
        self.assertIs(is_below([], HALF, machine("1 / 0 a 1"), machine("1 / 0 a 1"), table("-1")), False)


class Below(Case):

    def test_there_are_rows(self):
        self.assertEqual(len(self.below), 4)
        self.assertTrue(self.asked(is_below, self.below, self.far))

    def test_a_table_set_lower(self):
        """All numbers 0, and no rows; and all of them a little lower, with prices that are lower by as much."""
        noughts = [[Share(0)] * 4 for x in range(3)]
        self.assertTrue(self.asked(is_below, [], noughts))
        self.assertFalse(self.asked(is_below, self.below, noughts))
        for part in [HALF, Share(1, FORTY), minus(Share(1), BIT)]:
            lower = [[times(share, part) for share in row] for row in self.far]
            made = [
                (x, y, sign, tuple([times(price, part) for price in side] for side in prices))
                for x, y, sign, prices in self.below
            ]
            self.assertTrue(shows_below(made, self.fade, self.one, self.other, lower))
            self.assertTrue(self.asked(is_below, made, lower))
            self.assertFalse(self.asked(is_below, self.below, lower))

    def test_one_number_lower_and_its_own_prices(self):
        """The fade times 1/6 of what unlike menus are apart: a table that is lower, with prices made by hand."""
        one, other = machine("2 / 0 a 1 1"), machine("2 / 0 a 1 2")
        made = [(0, 0, "a", (shares("1 0"), shares("1 0")))]
        self.assertIs(is_below(made, HALF, one, other, table("1/12 1; 1 0")), True)
        self.assertIs(is_below(made, HALF, one, other, table("1/20 1; 1 0")), True)
        self.assertIs(is_below(made, HALF, one, other, table("1/11 1; 1 0")), False)
        self.assertIs(is_below(made, HALF, one, other, table("1/12 99/100; 1 0")), False)
        self.assertIs(is_below([], HALF, one, other, table("0 1; 1 0")), True)
        self.assertIs(is_below(made, HALF, one, other, table("0 1; 1 0")), False)
        self.assertIs(is_below([], HALF, one, other, table("1/12 1; 1 0")), False)

    def test_prices_all_set_higher_by_as_much(self):
        for more in [BIT, Share(-5), Share(7, 3)]:
            shifted = [
                (x, y, sign, tuple([plus(price, more) for price in side] for side in prices)) for x, y, sign, prices in self.below
            ]
            self.assertTrue(self.asked(is_below, shifted, self.far))

    def test_pairs_of_unlike_menus(self):
        for x, y, signs in pairs_of(self.one, self.other):
            if signs is None:
                self.no_below(self.below, with_number(self.far, x, y, plus(Share(1), BIT)))
        one, other = machine("1 / 0 a 1"), machine("1")
        for far, good in [("1", True), ("1/2", True), ("0", True), ("2", False), ("101/100", False)]:
            self.assertIs(is_below([], HALF, one, other, table(far)), good)

    def test_pairs_of_empty_menus(self):
        for far, good in [("0", True), ("1/2", False), ("1", False)]:
            self.assertIs(is_below([], HALF, machine("1"), machine("1"), table(far)), good)
            for sign in ["a", "", None]:
                made = [(0, 0, sign, ([Share(0)], [Share(0)]))]
                self.assertIs(is_below(made, HALF, machine("1"), machine("1"), table(far)), False)

    def test_a_number_a_little_otherwise(self):
        """Against the sums of this test; some are still papers."""
        told = set()
        for x in range(3):
            for y in range(4):
                for share in [plus(self.far[x][y], BIT), minus(self.far[x][y], BIT)]:
                    far = with_number(self.far, x, y, share)
                    good = share.top >= 0 and shows_below(self.below, self.fade, self.one, self.other, far)
                    self.assertIs(self.asked(is_below, self.below, far), good)
                    told.add(good)
        self.assertIn(False, told)

    def test_rows_left_out_told_twice_or_out_of_order(self):
        for at, row in enumerate(self.below):
            self.no_below(self.below[:at] + self.below[at + 1:])
            self.no_below(self.below[:at] + [row] + self.below[at:])
            self.no_below(replaced(self.below, at, self.below[at - 1]))
            self.no_below(self.below + [row])
            for to in range(at):
                self.no_below(replaced(replaced(self.below, at, self.below[to]), to, self.below[at]))
        self.no_below(self.below[::-1])
        self.no_below([])
        self.no_below(self.below + self.below)

    def test_a_row_for_a_pair_that_is_nought_apart(self):
        one, other = machine("1 / 0 a 1"), machine("1 / 0 a 1")
        made = [(0, 0, "a", (shares("0"), shares("0")))]
        self.assertIs(is_below([], HALF, one, other, table("0")), True)
        self.assertIs(is_below(made, HALF, one, other, table("0")), False)

    def test_a_pair_that_is_not_there(self):
        x, y, sign, prices = self.below[-1]
        for row in [(3, 0, "a", prices), (2, 4, "a", prices), (-1, 0, "a", prices), (2, 2, "a", prices), (2, 3, "b", prices)]:
            self.no_below(self.below + [row])
            self.no_below([row] + self.below)

    def test_other_signs_and_rooms(self):
        for at, (x, y, sign, prices) in enumerate(self.below):
            for other in ["c", "A", "", "ab", 0, None, b"a", ["a"], ("a",), True, Share(1), Agreeing()]:
                self.no_below(replaced(self.below, at, (x, y, other, prices)))
            for other in [-1, 0, 1, 2, 3, 4, FORTY, True, False, None, "0", (), Share(0), Share(1), Agreeing()]:
                if other is not x:
                    self.no_below(replaced(self.below, at, (other, y, sign, prices)))
                if other is not y:
                    self.no_below(replaced(self.below, at, (x, other, sign, prices)))
            for other in ["a", "b"]:
                changed = replaced(self.below, at, (x, y, other, prices))
                good = shows_below(changed, self.fade, self.one, self.other, self.far)
                self.assertIs(self.asked(is_below, changed, self.far), good)

    def test_a_sign_that_leads_less_far(self):
        one, other = machine("2 / 0 a 1 1 / 0 b 1 1"), machine("2 / 0 a 1 2 / 0 b 1 1")
        far, above, below = papers(HALF, one, other)
        x, y, sign, prices = below[0]
        self.assertEqual(sign, "a")
        self.assertIs(is_below([(x, y, "b", prices)], HALF, one, other, far), False)

    def test_prices_of_other_rows(self):
        for at, (x, y, sign, prices) in enumerate(self.below):
            for row in self.below:
                changed = replaced(self.below, at, (x, y, sign, row[3]))
                good = shows_below(changed, self.fade, self.one, self.other, self.far)
                self.assertIs(self.asked(is_below, changed, self.far), good)

    def test_prices_spoilt_by_a_little(self):
        told = set()
        for at, (x, y, sign, prices) in enumerate(self.below):
            for which, side in enumerate(prices):
                for place, price in enumerate(side):
                    for share in [plus(price, BIT), minus(price, BIT)]:
                        spoilt = replaced(prices, which, replaced(side, place, share))
                        changed = replaced(self.below, at, (x, y, sign, spoilt))
                        good = shows_below(changed, self.fade, self.one, self.other, self.far)
                        self.assertIs(self.asked(is_below, changed, self.far), good)
                        told.add(good)
            higher = ([plus(price, BIT) for price in prices[0]], prices[1])
            self.no_below(replaced(self.below, at, (x, y, sign, higher)))
            lower = (prices[0], [plus(price, BIT) for price in prices[1]])
            self.no_below(replaced(self.below, at, (x, y, sign, lower)))
        self.assertIn(False, told)

    def test_other_things_in_the_place_of_shares(self):
        x, y, sign, prices = self.below[0]
        for which, side in enumerate(prices):
            for place, price in enumerate(side):
                for thing in anything() + [0, 1, -1, number(price)]:
                    spoilt = replaced(prices, which, replaced(side, place, thing))
                    self.no_below(replaced(self.below, 0, (x, y, sign, spoilt)))

    def test_prices_of_another_form(self):
        for at, (x, y, sign, prices) in enumerate(self.below):
            here, there = prices
            for thing in [
                [here, there], (tuple(here), there), (here, tuple(there)), (there, here), (here,), (here, there, here), here + there,
                (here[:2], there), (here + [Share(-9)], there), (here, there[:3]), (here, there + [Share(9)]), (prices,), [prices],
            ] + anything() + [0, 1, Share(1)]:
                self.no_below(replaced(self.below, at, (x, y, sign, thing)))

    def test_rows_of_another_form(self):
        for at, row in enumerate(self.below):
            for thing in [list(row), row[:3], row + (None,), row[1:], row[:3] + row[3], (row,), [row], (row[:3], row[3])]:
                self.no_below(replaced(self.below, at, thing))
            for thing in anything() + [0, 1, Share(1), "0a"]:
                self.no_below(replaced(self.below, at, thing))

    def test_papers_of_another_form(self):
        for thing in anything() + [tuple(self.below), {at: row for at, row in enumerate(self.below)}, 0, 1, self.above]:
            self.no_below(thing)


class OneNumber(unittest.TestCase):

    def test_both_together_leave_one_number(self):
        """A table for which there are both papers is the table of apart."""
        dice = Dice(105)
        for turn in range(15):
            one, other = some_machine(dice, 3, "ab", 4, 30, 5), some_machine(dice, 3, "ab", 4, 30, 5)
            fade = dice.one_of(FADES)
            far, above, below = papers(fade, one, other)
            for x in range(3):
                for y in range(3):
                    for share in [plus(far[x][y], BIT), minus(far[x][y], BIT), Share(1, 7)]:
                        changed = with_number(far, x, y, share)
                        both = is_above(above, fade, one, other, changed) and is_below(below, fade, one, other, changed)
                        self.assertIs(both, share == far[x][y])


if __name__ == "__main__":
    unittest.main()
