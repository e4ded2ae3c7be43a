"""Heaps, plans that carry one to another, and prices that show how cheap a plan can be."""

from farbetween.errors import NoCosts, NoHeap
from farbetween.pivots import Haul
from farbetween.shares import Share, common_bottom, minus, sum_of, tops_over

MOST_PLACES = 12


def are_shares(thing, many):
    """Whether this is a list of so many shares."""
    return isinstance(thing, list) and len(thing) == many and all([isinstance(each, Share) for each in thing])


def are_amounts(thing, many):
    """Whether this is a list of so many shares, none below 0."""
    return are_shares(thing, many) and all([share.top >= 0 for share in thing])


def is_table(thing, rows, columns):
    """Whether this is a list of so many rows of so many shares, none below 0."""
    return isinstance(thing, list) and len(thing) == rows and all([are_amounts(row, columns) for row in thing])


def is_heap(thing):
    """Whether this is a list of one to twelve shares, none below 0, that come to 1."""
    if not isinstance(thing, list) or not 1 <= len(thing) <= MOST_PLACES:
        return False
    return are_amounts(thing, len(thing)) and sum_of(thing) == Share(1)


def is_plan(thing, first, second):
    """Whether this, which may be anything, is a plan for two heaps."""
    if not is_table(thing, len(first), len(second)):
        return False
    rows = [sum_of(row) for row in thing]
    columns = [sum_of([row[at] for row in thing]) for at in range(len(second))]
    return rows == first and columns == second


def are_prices(thing, costs):
    """Whether this, which may be anything, are prices for costs; told apart over one bottom, without fractions."""
    if not isinstance(thing, tuple) or len(thing) != 2:
        return False
    here, there = thing
    if not are_shares(here, len(costs)) or not are_shares(there, len(costs[0])):
        return False
    bottom = common_bottom(here + there + joined(costs))
    near = tops_over(bottom, here)
    far = tops_over(bottom, there)
    rows = [tops_over(bottom, row) for row in costs]
    return all([near[at] - far[to] <= cost for at, row in enumerate(rows) for to, cost in enumerate(row)])


def joined(rows):
    """All things of all rows, in one list."""
    return [thing for row in rows for thing in row]


def weighed(shares, others):
    """The sum of these shares, each times the other one at its place; only the sum is put in lowest terms."""
    unit = common_bottom(shares)
    grain = common_bottom(others)
    parts = [one * other for one, other in zip(tops_over(unit, shares), tops_over(grain, others))]
    return Share(sum(parts), unit * grain)


def cost_of(costs, plan):
    """The sum of all that is carried, each times its cost."""
    return weighed(joined(costs), joined(plan))


def brought(prices, first, second):
    """What prices bring for two heaps: what the first's come to less what the second's do."""
    here, there = prices
    return minus(weighed(here, first), weighed(there, second))


def cheapest(costs, first, second):
    """A tuple (cost, plan, prices): a plan that costs, and prices that bring, just the cost."""
    if not is_heap(first):
        raise NoHeap("what is handed in as the first heap is none")
    if not is_heap(second):
        raise NoHeap("what is handed in as the second heap is none")
    if not is_table(costs, len(first), len(second)):
        raise NoCosts("what is handed in as costs is none for these heaps")
    unit = common_bottom(joined(costs))
    grain = common_bottom(first + second)
    whole_costs = [tops_over(unit, row) for row in costs]
    haul = Haul(whole_costs, tops_over(grain, first), tops_over(grain, second))
    plan = shares_over(haul.grain, haul.plan(len(first), len(second)))
    here, there = shares_over(unit, haul.prices(whole_costs))
    return cost_of(costs, plan), plan, (here, there)


def shares_over(bottom, rows):
    """The rows of shares that have these tops over this bottom."""
    return [[Share(top, bottom) for top in row] for row in rows]
