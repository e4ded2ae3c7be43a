"""[2.1] and [2.2]: plans, prices, and what they come to."""

import itertools
import unittest
from fractions import Fraction

from farbetween.carrying import are_prices, brought, cost_of, is_plan
from farbetween.shares import Share, minus, plus
from tests.helper import FORTY, Dice, anything, number, plain, shares, table

BIT = Share(1, 10 ** 30)


def copied(rows):
    return [list(row) for row in rows]


def with_share(rows, at, to, share):
    """These rows with this share put in one place."""
    changed = copied(rows)
    changed[at][to] = share
    return changed


def places(rows):
    return [(at, to) for at, row in enumerate(rows) for to in range(len(row))]


class Plans(unittest.TestCase):

    def setUp(self):
        self.first = shares("1/2 1/3 1/6")
        self.second = shares("1/4 3/4")
        self.plan = table("1/4 1/4; 0 1/3; 0 1/6")

    def refuse(self, thing):
        before = plain(thing)
        self.assertIs(is_plan(thing, self.first, self.second), False)
        self.assertEqual(plain(thing), before)

    def test_plans(self):
        for text in ["1/4 1/4; 0 1/3; 0 1/6", "0 1/2; 1/4 1/12; 0 1/6", "1/8 3/8; 1/12 1/4; 1/24 1/8", "0 1/2; 1/12 1/4; 1/6 0"]:
            self.assertIs(is_plan(table(text), self.first, self.second), True)

    def test_a_plan_of_one_place(self):
        self.assertIs(is_plan([[Share(1)]], [Share(1)], [Share(1)]), True)
        self.assertIs(is_plan([[Share(2, 2)]], [Share(-3, -3)], [Share(1)]), True)

    def test_plans_of_twelve_places(self):
        heap = [Share(1, 12)] * 12
        straight = [[Share(1, 12) if at == to else Share(0) for to in range(12)] for at in range(12)]
        self.assertIs(is_plan(straight, heap, heap), True)
        self.assertIs(is_plan([[Share(1, 144)] * 12] * 12, heap, heap), True)
        self.assertIs(is_plan(straight, heap, [Share(1)] + [Share(0)] * 11), False)

    def test_a_share_a_little_more_or_less(self):
        for at, to in places(self.plan):
            self.refuse(with_share(self.plan, at, to, plus(self.plan[at][to], BIT)))
            self.refuse(with_share(self.plan, at, to, minus(self.plan[at][to], BIT)))

    def test_moved_within_a_row_or_a_column(self):
        for at, to in places(self.plan):
            less_here = with_share(self.plan, at, to, minus(self.plan[at][to], BIT))
            for by, other in places(self.plan):
                if (at, to) != (by, other):
                    self.refuse(with_share(less_here, by, other, plus(less_here[by][other], BIT)))

    def test_exchanged(self):
        for at, to in places(self.plan):
            for by, other in places(self.plan):
                if self.plan[at][to] != self.plan[by][other]:
                    changed = with_share(self.plan, at, to, self.plan[by][other])
                    self.refuse(with_share(changed, by, other, self.plan[at][to]))
        self.refuse([self.plan[1], self.plan[0], self.plan[2]])
        self.refuse([row[::-1] for row in self.plan])

    def test_below_nought_with_the_sums_right(self):
        self.refuse(table("1/2 0; -1/4 7/12; 0 1/6"))
        self.refuse(table("1/4 1/4; 1/6 1/6; -1/6 1/3"))
        first, second = shares("1/2 1/2"), shares("1/2 1/2")
        self.assertIs(is_plan(table("3/4 -1/4; -1/4 3/4"), first, second), False)

    def test_something_else_for_a_share(self):
        for at, to in places(self.plan):
            for thing in anything() + [0, 1, Fraction(1, 4)]:
                self.refuse(with_share(self.plan, at, to, thing))

    def test_rows_and_shares_too_many_or_too_few(self):
        self.refuse(self.plan[:2])
        self.refuse(self.plan[1:])
        self.refuse(self.plan + [shares("0 0")])
        self.refuse([shares("0 0")] + self.plan)
        self.refuse(self.plan + [[]])
        for at in range(3):
            changed = copied(self.plan)
            changed[at].append(Share(0))
            self.refuse(changed)
            changed[at] = changed[at][:1]
            self.refuse(changed)
            changed[at] = []
            self.refuse(changed)
        self.refuse([row + [Share(0)] for row in self.plan])
        self.refuse([row[:1] for row in self.plan])
        self.refuse(table("1/4 0 0; 1/4 1/3 1/6"))

    def test_other_kinds(self):
        self.refuse(tuple(self.plan))
        self.refuse([tuple(row) for row in self.plan])
        self.refuse(self.plan[:2] + [tuple(self.plan[2])])
        self.refuse({at: row for at, row in enumerate(self.plan)})
        self.refuse(self.plan[0] + self.plan[1] + self.plan[2])
        for thing in anything() + [0, 1, Share(1)]:
            self.refuse(thing)
            self.refuse(self.plan[:2] + [thing])
            self.refuse([thing] + self.plan[1:])

    def test_the_heaps_stay(self):
        before = plain((self.first, self.second, self.plan))
        is_plan(self.plan, self.first, self.second)
        is_plan(None, self.first, self.second)
        self.assertEqual(plain((self.first, self.second, self.plan)), before)

    def test_all_small_ones_against_sums_written_here(self):
        for first, second, plans in [("1/2 1/2", "1/2 1/2", 4), ("1/3 2/3", "1/6 5/6", 2), ("0 1", "1/3 2/3", 1)]:
            lies, wants = [[int(6 * number(share)) for share in shares(text)] for text in (first, second)]
            found = 0
            for a, b, c, d in itertools.product(range(-1, 7), repeat=4):
                good = min(a, b, c, d) >= 0 and [a + b, c + d] == lies and [a + c, b + d] == wants
                thing = [[Share(a, 6), Share(b, 6)], [Share(c, 6), Share(d, 6)]]
                self.assertIs(is_plan(thing, shares(first), shares(second)), good)
                found += good
            self.assertEqual(found, plans)


class Prices(unittest.TestCase):

    def setUp(self):
        self.costs = table("0 1 1/2; 2 1/3 0")
        self.prices = (shares("0 0"), shares("0 -1/3 0"))

    def refuse(self, thing):
        before = plain(thing)
        self.assertIs(are_prices(thing, self.costs), False)
        self.assertEqual(plain(thing), before)

    def test_prices(self):
        for here, there in [
            ("0 0", "0 0 0"), ("0 0", "0 -1/3 0"), ("-5 -5", "-5 -5 -5"), ("1/2 0", "1/2 -1/3 0"), ("-9 -8", "7 9 12"),
            ("1000 1000", "1000 1000 1000"), ("-1/2 0", "-1/2 -1/3 0"),
        ]:
            self.assertIs(are_prices((shares(here), shares(there)), self.costs), True, (here, there))

    def test_nought_as_the_cost_of_all(self):
        costs = table("0 0; 0 0")
        self.assertIs(are_prices((shares("1 1"), shares("1 1")), costs), True)
        self.assertIs(are_prices((shares("1 1"), shares("1 2")), costs), True)
        self.assertIs(are_prices((shares("1 2"), shares("1 2")), costs), False)

    def test_a_little_above_at_each_way(self):
        for at, to in places(self.costs):
            cost = self.costs[at][to]
            high = Share(100)
            here = [Share(-100) if row != at else cost for row in range(2)]
            there = [high if column != to else Share(0) for column in range(3)]
            self.assertIs(are_prices((here, there), self.costs), True)
            above = [plus(price, BIT) if row == at else price for row, price in enumerate(here)]
            self.refuse((above, there))
            below = [minus(price, BIT) if column == to else price for column, price in enumerate(there)]
            self.refuse((here, below))

    def test_too_many_or_too_few(self):
        here, there = self.prices
        self.refuse((here + [Share(-9)], there))
        self.refuse((here[:1], there))
        self.refuse(([], there))
        self.refuse((here, there + [Share(9)]))
        self.refuse((here, there[:2]))
        self.refuse((here, []))
        self.refuse((there, here))
        self.refuse((here,))
        self.refuse((here, there, here))
        self.refuse((here, there, []))
        self.refuse(())

    def test_other_kinds(self):
        here, there = self.prices
        self.refuse([here, there])
        self.refuse((tuple(here), there))
        self.refuse((here, tuple(there)))
        self.refuse(here + there)
        self.refuse({0: here, 1: there})
        for thing in anything() + [0, -1, Fraction(-1, 3)]:
            self.refuse(thing)
            self.refuse((thing, there))
            self.refuse((here, thing))
            self.refuse(([thing, Share(0)], there))
            self.refuse(([Share(0), thing], there))
            for to in range(3):
                self.refuse((here, there[:to] + [thing] + there[to + 1:]))
        self.refuse(Share(0))
        self.refuse((Share(0), there))
        self.refuse((here, Share(0)))
        self.refuse((Share(0), Share(0)))

    def test_the_costs_stay(self):
        before = plain((self.costs, self.prices))
        are_prices(self.prices, self.costs)
        are_prices(None, self.costs)
        self.assertEqual(plain((self.costs, self.prices)), before)

    def test_against_sums_written_here(self):
        dice = Dice(17)
        right = 0
        for turn in range(300):
            rows, columns = dice.between(1, 3), dice.between(1, 3)
            scale = dice.one_of([1, 7, FORTY])
            costs = [[Share(dice.between(0, 9), 4 * scale) for to in range(columns)] for at in range(rows)]
            here = [Share(dice.between(-9, 6), 4 * scale) for at in range(rows)]
            there = [Share(dice.between(-6, 9), 4 * scale) for to in range(columns)]
            good = all(number(here[at]) - number(there[to]) <= number(costs[at][to]) for at, to in places(costs))
            right += good
            self.assertIs(are_prices((here, there), costs), good)
        self.assertTrue(30 < right < 270)


class Sums(unittest.TestCase):

    def test_cost_written_out(self):
        costs = table("0 1 1/2; 2 1/3 0")
        self.assertEqual(cost_of(costs, table("1/2 0 0; 0 0 1/2")), Share(0))
        self.assertEqual(cost_of(costs, table("0 1/2 0; 1/2 0 0")), Share(3, 2))
        self.assertEqual(cost_of(costs, table("1/6 1/6 1/6; 1/6 1/6 1/6")), Share(23, 36))

    def test_brought_written_out(self):
        first, second = shares("1/2 1/2"), shares("1/3 1/3 1/3")
        self.assertEqual(brought((shares("0 0"), shares("0 0 0")), first, second), Share(0))
        self.assertEqual(brought((shares("1 2"), shares("0 1 0")), first, second), Share(7, 6))
        self.assertEqual(brought((shares("0 0"), shares("1 1 1")), first, second), Share(-1))
        self.assertEqual(brought((shares("5 5"), shares("5 5 5")), first, second), Share(0))

    def test_against_sums_written_here(self):
        dice = Dice(29)
        for turn in range(60):
            rows, columns = dice.between(1, 12), dice.between(1, 12)
            size = dice.one_of([9, 10 ** 6, FORTY])
            costs = [[Share(dice.below(size), dice.between(1, size)) for to in range(columns)] for at in range(rows)]
            first = weighed_heap(dice, rows, size)
            second = weighed_heap(dice, columns, size)
            plan = [[Share(dice.below(size), size) for to in range(columns)] for at in range(rows)]
            here = [Share(dice.between(-size, size), size + 1) for at in range(rows)]
            there = [Share(dice.between(-size, size), size + 1) for to in range(columns)]
            before = plain((costs, plan, here, there, first, second))
            cost = sum(number(costs[at][to]) * number(plan[at][to]) for at, to in places(costs))
            self.assertEqual(number(cost_of(costs, plan)), cost)
            worth = sum(number(price) * number(lies) for price, lies in zip(here, first))
            worth -= sum(number(price) * number(wanted) for price, wanted in zip(there, second))
            self.assertEqual(number(brought((here, there), first, second)), worth)
            self.assertEqual(plain((costs, plan, here, there, first, second)), before)


def weighed_heap(dice, many, size):
    weights = [dice.below(size) for place in range(many)]
    weights[dice.below(many)] += 1
    return [Share(weight, sum(weights)) for weight in weights]


if __name__ == "__main__":
    unittest.main()
