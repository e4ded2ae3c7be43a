"""[2.3]: a cheapest plan, and prices that show that there is no cheaper one."""

import itertools
import unittest
from fractions import Fraction

from farbetween import errors
from farbetween.carrying import are_prices, brought, cheapest, cost_of, is_plan
from farbetween.shares import Share, minus, plus
from tests.helper import FORTY, Dice, anything, lists_in, number, numbers, plain, shares, table


def heap_of(weights):
    return [Share(weight, sum(weights)) for weight in weights]


def some_heap(dice, many, size, empty=0):
    """A heap by dice; each place but one is empty as often as told, in a hundred."""
    weights = [0 if dice.below(100) < empty else dice.between(1, size) for place in range(many)]
    weights[dice.below(many)] = dice.between(1, size)
    return heap_of(weights)


def cut_heap(dice, many, bottom):
    """A heap of whole parts of 1 / bottom: the line from 0 to bottom, cut at unlike places."""
    cuts = sorted(dice.mixed(range(bottom))[:many - 1])
    return [Share(high - low, bottom) for low, high in zip([0] + cuts, cuts + [bottom])]


def some_costs(dice, rows, columns, size, bottom):
    return [[Share(dice.between(0, size), dice.between(1, bottom)) for to in range(columns)] for at in range(rows)]


def corner_plan(first, second, rows, columns):
    """The plan that fills places in these orders, as much as can be in each."""
    lying, wanted = numbers(first), numbers(second)
    plan = [[Fraction(0) for to in second] for at in first]
    for at in rows:
        for to in columns:
            amount = min(lying[at], wanted[to])
            plan[at][to] += amount
            lying[at] -= amount
            wanted[to] -= amount
    return plan


def other_plans(dice, first, second):
    """Plans made here, by no thought of costs."""
    spread = [[lies * wants for wants in numbers(second)] for lies in numbers(first)]
    plans = [spread]
    for turn in range(6):
        plans.append(corner_plan(first, second, dice.mixed(range(len(first))), dice.mixed(range(len(second)))))
    plans.append([[sum(parts) / 2 for parts in zip(*rows)] for rows in zip(plans[-1], plans[-2])])
    return plans


def least_by_trying(costs, first, second, bottom):
    """The least cost of all plans of whole parts of 1 / bottom, all of them tried, row by row."""
    wanted = [int(share * bottom) for share in numbers(second)]
    best = {tuple(wanted): Fraction(0)}
    for row, lies in zip(costs, numbers(first)):
        found = {}
        for left, cost in best.items():
            for moved in itertools.product(*[range(each + 1) for each in left]):
                if sum(moved) == lies * bottom:
                    rest = tuple(each - gone for each, gone in zip(left, moved))
                    total = cost + sum(number(price) * gone for price, gone in zip(row, moved)) / bottom
                    found[rest] = min(total, found.get(rest, total))
        best = found
    return best[tuple([0] * len(wanted))]


class Told(unittest.TestCase):

    def check(self, costs, first, second):
        """That what is told is a plan and prices for these, by sums written here; tells the cost."""
        before = plain((costs, first, second))
        told = cheapest(costs, first, second)
        self.assertEqual(plain((costs, first, second)), before)
        self.check_form(told, costs, first, second)
        cost, plan, (here, there) = told
        self.check_plan(plan, first, second)
        lows = [
            number(costs[at][to]) - number(here[at]) + number(there[to])
            for at in range(len(first)) for to in range(len(second))
        ]
        self.assertGreaterEqual(min(lows), 0)
        paid = sum(number(price) * number(amount) for row, amounts in zip(costs, plan) for price, amount in zip(row, amounts))
        worth = sum(number(price) * number(lies) for price, lies in zip(here, first))
        worth -= sum(number(price) * number(wants) for price, wants in zip(there, second))
        self.assertEqual((paid, worth), (number(cost), number(cost)))
        self.assertIs(is_plan(plan, first, second), True)
        self.assertIs(are_prices((here, there), costs), True)
        self.assertEqual(cost_of(costs, plan), cost)
        self.assertEqual(brought((here, there), first, second), cost)
        return number(cost)

    def check_form(self, told, costs, first, second):
        self.assertIs(type(told), tuple)
        self.assertEqual(len(told), 3)
        cost, plan, prices = told
        self.assertIs(type(cost), Share)
        self.assertIs(type(plan), list)
        self.assertIs(type(prices), tuple)
        self.assertEqual([type(side) for side in prices], [list, list])
        self.assertEqual([len(side) for side in prices], [len(first), len(second)])
        self.assertEqual([(type(row), len(row)) for row in plan], [(list, len(second))] * len(first))
        self.assertTrue(all(type(share) is Share for row in plan + list(prices) for share in row))
        new = [id(each) for each in lists_in(told)]
        self.assertEqual(len(set(new)), len(new))
        self.assertFalse(set(new) & {id(each) for each in lists_in([costs, first, second])})

    def check_plan(self, plan, first, second):
        amounts = [numbers(row) for row in plan]
        self.assertGreaterEqual(min(min(row) for row in amounts), 0)
        self.assertEqual([sum(row) for row in amounts], numbers(first))
        self.assertEqual([sum(column) for column in zip(*amounts)], numbers(second))


class Cheapest(Told):

    def test_written_out(self):
        for costs, first, second, cost in [
            ("0 1; 1 0", "1/2 1/2", "1/2 1/2", "0"),
            ("0 1; 1 0", "1 0", "0 1", "1"),
            ("0 1; 1 0", "1/2 1/2", "1/3 2/3", "1/6"),
            ("5 7/2", "1", "1/4 3/4", "31/8"),
            ("5; 7/2", "1/4 3/4", "1", "31/8"),
            ("4 1; 1 0", "1/2 1/2", "1/2 1/2", "1"),
            ("0 1 2; 1 0 1; 2 1 0", "1/2 1/2 0", "0 1/2 1/2", "1"),
            ("1 3 2; 2 2 1", "2/5 3/5", "1/5 2/5 2/5", "8/5"),
        ]:
            self.assertEqual(self.check(table(costs), shares(first), shares(second)), number(shares(cost)[0]))

    def test_one_place(self):
        for cost in [Share(0), Share(1), Share(7, 3), Share(FORTY, FORTY + 1)]:
            self.assertEqual(self.check([[cost]], [Share(1)], [Share(1)]), number(cost))

    def test_tried_out(self):
        dice = Dice(2)
        for turn in range(40):
            rows, columns, bottom = dice.between(1, 3), dice.between(1, 4), dice.between(3, 6)
            first, second = cut_heap(dice, rows, bottom), cut_heap(dice, columns, bottom)
            costs = some_costs(dice, rows, columns, 6, 3)
            self.assertEqual(self.check(costs, first, second), least_by_trying(costs, first, second, bottom))

    def test_no_other_plan_is_cheaper(self):
        dice = Dice(77)
        for turn in range(50):
            rows, columns = dice.between(1, 12), dice.between(1, 12)
            size = dice.one_of([2, 9, 10 ** 6])
            first, second = some_heap(dice, rows, size, 20), some_heap(dice, columns, size, 20)
            costs = some_costs(dice, rows, columns, size, dice.one_of([1, 4, 1000]))
            cost = self.check(costs, first, second)
            for plan in other_plans(dice, first, second):
                paid = sum(
                    number(price) * amount for row, amounts in zip(costs, plan) for price, amount in zip(row, amounts)
                )
                self.assertGreaterEqual(paid, cost)

    def test_unlike_lengths(self):
        dice = Dice(8)
        for rows, columns in [(1, 12), (12, 1), (2, 11), (11, 2), (3, 4), (12, 5)]:
            first, second = some_heap(dice, rows, 50), some_heap(dice, columns, 50)
            self.check(some_costs(dice, rows, columns, 50, 7), first, second)

    def test_twelve_places_on_both_sides(self):
        dice = Dice(12)
        for size in [1, 2, 9, 10 ** 6, FORTY]:
            for bottom in [1, 5, FORTY]:
                first, second = some_heap(dice, 12, size), some_heap(dice, 12, size)
                self.check(some_costs(dice, 12, 12, size, bottom), first, second)

    def test_parts_that_come_to_the_same(self):
        """Where some places hold just what some others want there are ties all along."""
        dice = Dice(6)
        for many in range(1, 13):
            even = heap_of([1] * many)
            for size in [1, 3, 100]:
                self.check(some_costs(dice, many, many, size, 1), even, heap_of([1] * many))
                twofold = heap_of([dice.one_of([1, 2, 4]) for place in range(many)])
                self.check(some_costs(dice, many, many, size, 1), twofold, dice.mixed(twofold))

    def test_places_of_nothing(self):
        dice = Dice(9)
        for turn in range(60):
            rows, columns = dice.between(1, 12), dice.between(1, 12)
            first, second = some_heap(dice, rows, 9, 70), some_heap(dice, columns, 9, 70)
            self.check(some_costs(dice, rows, columns, dice.one_of([0, 1, 30]), 3), first, second)

    def test_all_at_one_place(self):
        for many in [1, 2, 5, 12]:
            for at in range(many):
                for to in range(many):
                    costs = [[Share(5 * row + column, 3) for column in range(many)] for row in range(many)]
                    first = [Share(int(place == at)) for place in range(many)]
                    second = [Share(int(place == to)) for place in range(many)]
                    self.assertEqual(self.check(costs, first, second), Fraction(5 * at + to, 3))

    def test_costs_all_nought_or_all_alike(self):
        dice = Dice(10)
        for many in [1, 2, 7, 12]:
            for cost in [Share(0), Share(1), Share(3, 7), Share(FORTY, FORTY - 1)]:
                for empty in [0, 50]:
                    first, second = some_heap(dice, many, 9, empty), some_heap(dice, 12, 9, empty)
                    costs = [[cost] * 12 for at in range(many)]
                    self.assertEqual(self.check(costs, first, second), number(cost))

    def test_one_list_as_both_heaps_and_as_all_rows(self):
        heap = heap_of([1, 2, 3])
        row = shares("1 2 3")
        self.assertEqual(self.check([row, row, row], heap, heap), Fraction(14, 6))

    def test_costs_by_rules(self):
        dice = Dice(4)
        rules = [
            lambda at, to: abs(at - to), lambda at, to: (at - to) ** 2, lambda at, to: at * to,
            lambda at, to: 11 * 11 - at * to, lambda at, to: 2 ** (at + to), lambda at, to: 3 ** abs(at - to),
            lambda at, to: int(at != to), lambda at, to: (7 * at + 5 * to) % 12, lambda at, to: 2 ** ((5 * at * to) % 13),
        ]
        for rule in rules:
            costs = [[Share(rule(at, to), 5) for to in range(12)] for at in range(12)]
            for heap, other in [
                (heap_of([1] * 12), heap_of(range(12))), (heap_of(range(12)), heap_of(range(11, -1, -1))),
                (heap_of([2 ** at for at in range(12)]), heap_of([3 ** at for at in range(12)])),
                (some_heap(dice, 12, FORTY), some_heap(dice, 12, FORTY, 30)),
            ]:
                self.check(costs, heap, other)

    def test_the_way_along_a_line(self):
        """Where a cost is how far places lie from each other, the least cost is known by sums from the left."""
        dice = Dice(31)
        costs = [[Share(abs(at - to)) for to in range(12)] for at in range(12)]
        for size in [3, 1000, FORTY]:
            first, second = some_heap(dice, 12, size, 20), some_heap(dice, 12, size, 20)
            known, over = Fraction(0), Fraction(0)
            for lies, wants in zip(numbers(first), numbers(second)):
                over += lies - wants
                known += abs(over)
            self.assertEqual(self.check(costs, first, second), known)

    def test_either_way_round(self):
        dice = Dice(15)
        for turn in range(20):
            rows, columns = dice.between(1, 12), dice.between(1, 12)
            first, second = some_heap(dice, rows, 20, 20), some_heap(dice, columns, 20, 20)
            costs = some_costs(dice, rows, columns, 20, 6)
            turned = [[costs[at][to] for at in range(rows)] for to in range(columns)]
            self.assertEqual(self.check(costs, first, second), self.check(turned, second, first))

    def test_changed_by_the_caller_the_same_is_told(self):
        costs, first, second = table("0 1 2; 1 0 1; 2 1 0"), shares("1/2 1/3 1/6"), shares("1/6 1/3 1/2")
        told = cheapest(costs, first, second)
        before = plain(told)
        for each in lists_in(told):
            each.append(None)
            each[0] = None
        self.assertEqual(plain(cheapest(costs, first, second)), before)
        self.assertEqual(plain(cheapest([list(row) for row in costs], list(first), list(second))), before)

    def test_changed_behind_its_being_handed_in(self):
        costs, first, second = table("0 1; 1 0"), shares("1/2 1/2"), shares("1/3 2/3")
        told = cheapest(costs, first, second)
        before = plain(told)
        costs[0][0], costs[1] = None, None
        first.clear()
        second[0] = None
        self.assertEqual(plain(told), before)


class Refused(unittest.TestCase):

    def setUp(self):
        self.costs = table("0 1 1/2; 2 1/3 0")
        self.first = shares("1/4 3/4")
        self.second = shares("1/3 1/3 1/3")

    def refuse(self, refusal, costs, first, second):
        before = plain((costs, first, second))
        with self.assertRaises(errors.FarError) as caught:
            cheapest(costs, first, second)
        self.assertIs(type(caught.exception), refusal)
        self.assertEqual(plain((costs, first, second)), before)

    def no_heaps(self):
        """What is no heap, whatever else is right."""
        half = Share(1, 2)
        bit = Share(1, 10 ** 30)
        spoilt = [
            tuple(self.first), (Share(1),), [], [Share(0)], [Share(2)], [Share(-1)], [half], [half, half, half],
            [plus(half, bit), half], [half, minus(half, bit)], [Share(3, 2), Share(-1, 2)], [Share(-1), Share(1), Share(1)],
            heap_of([1] * 13), [Share(1)] + [Share(0)] * 12, [Share(0)] * 12, heap_of([1] * 40), [half, Fraction(1, 2)],
            [1], [0, 1], [Share(1), 0], [half, "1/2"], [Share(1), None], [Share(1), [Share(0)]], [[Share(1)]],
            [Share(0), True], {0: Share(1)}, Share(1), 1, 0, [self.first], [Share(1), Share(0), -1],
        ]
        return spoilt + anything()

    def no_costs(self):
        """What is no costs for a heap of two places and one of three."""
        row = shares("1 1 1")
        spoilt = [
            [], [row], [row, row, row], [row, row, []], [row, row[:2]], [row[:2], row], [row, row + row[:1]],
            [row + row[:1], row + row[:1]], [row[:2], row[:2]], [row[:2]] * 3, tuple([row, row]), [tuple(row), row],
            [row, tuple(row)], row, row + row, [[], []], [row, None], [row, 1], [row, Share(1)], {0: row, 1: row}, 0, 1,
        ]
        for at in range(2):
            for to in range(3):
                for thing in [Share(-1), Share(-1, 10 ** 30), 0, 1, None, "1", True, Fraction(1), row, [Share(1)]]:
                    changed = [list(row), list(row)]
                    changed[at][to] = thing
                    spoilt.append(changed)
        return spoilt + anything()

    def test_nothing_is_refused_of_good_ones(self):
        cheapest(self.costs, self.first, self.second)

    def test_the_first_heap(self):
        for thing in self.no_heaps():
            self.refuse(errors.NoHeap, self.costs, thing, self.second)

    def test_the_second_heap(self):
        for thing in self.no_heaps():
            self.refuse(errors.NoHeap, self.costs, self.first, thing)

    def test_the_costs(self):
        for thing in self.no_costs():
            self.refuse(errors.NoCosts, thing, self.first, self.second)

    def test_costs_for_heaps_the_other_way_round(self):
        self.refuse(errors.NoCosts, self.costs, self.second, self.first)

    def test_heaps_go_ahead_of_costs(self):
        for thing in self.no_heaps():
            self.refuse(errors.NoHeap, None, thing, self.second)
            self.refuse(errors.NoHeap, [[Share(-1)]], self.first, thing)
            self.refuse(errors.NoHeap, [], thing, thing)

    def test_the_first_heap_goes_ahead_of_the_second(self):
        told = []
        for first, second in [(None, self.second), (None, None), (self.first, None)]:
            with self.assertRaises(errors.NoHeap) as caught:
                cheapest(self.costs, first, second)
            told.append(str(caught.exception))
        self.assertEqual(told[0], told[1])
        self.assertNotEqual(told[1], told[2])

    def test_twelve_places_are_a_heap_and_thirteen_are_none(self):
        for many, good in [(11, True), (12, True), (13, False)]:
            heap = heap_of([1] * many)
            costs = [[Share(1)] for place in range(many)]
            if good:
                self.assertEqual(cheapest(costs, heap, [Share(1)])[0], Share(1))
                self.assertEqual(cheapest([[Share(1)] * many], [Share(1)], heap)[0], Share(1))
            else:
                self.refuse(errors.NoHeap, costs, heap, [Share(1)])
                self.refuse(errors.NoHeap, [[Share(1)] * many], [Share(1)], heap)

    def test_refused_and_asked_again(self):
        before = plain(cheapest(self.costs, self.first, self.second))
        self.refuse(errors.NoHeap, self.costs, None, self.second)
        self.refuse(errors.NoCosts, None, self.first, self.second)
        self.assertEqual(plain(cheapest(self.costs, self.first, self.second)), before)


if __name__ == "__main__":
    unittest.main()
