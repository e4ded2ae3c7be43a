"""Cheapest carrying in whole numbers.

Ways are tuples (row, column). A tree is a dict from ways to amounts above 0 that
join all filled rows and columns without a ring. It is exchanged way by way for as
long as that makes it cheaper.
"""

from farbetween.shares import common_multiple


class Haul:
    """What is carried from one heap to another; kept from costs to costs, to be made cheaper by each of them.

    grain is what the amounts of either heap come to, once both are counted in the same parts; moves is a
    dict from ways to the amounts above 0 that go by them.
    """

    def __init__(self, costs, first, second):
        """Of two heaps of whole amounts, none below 0 and not all 0; it is cheapest by these costs."""
        self.grain = common_multiple(sum(first), sum(second))
        self.tree = first_tree(costs, in_parts(first, self.grain), in_parts(second, self.grain))
        self.moves = {}
        self.cheapen(costs)

    def cheapen(self, costs):
        """Exchange ways for as long as that makes it cheaper by these costs."""
        hung = hang(costs, self.tree)
        gap, way = widest_gap(costs, hung)
        while gap < 0:
            exchange(self.tree, way, hung)
            hung = hang(costs, self.tree)
            gap, way = widest_gap(costs, hung)
        self.moves = rounded(self.tree)

    def paid(self, costs):
        """What it costs by these costs, the grain being the whole."""
        return sum([amount * costs[row][column] for (row, column), amount in self.moves.items()])

    def plan(self, rows, columns):
        """The amounts that are carried, in so many rows of so many."""
        return [[self.moves.get((row, column), 0) for column in range(columns)] for row in range(rows)]

    def prices(self, costs):
        """A tuple (here, there): the prices that bring just what it costs, which is cheapest by these costs."""
        here, there, ups, downs = hang(costs, self.tree)
        return all_prices(costs, here)


def in_parts(amounts, grain):
    """A dict from the filled places to what lies there, when all of it is counted in so many parts."""
    part = grain // sum(amounts)
    return {at: amount * part for at, amount in enumerate(amounts) if amount > 0}


def all_prices(costs, known):
    """The prices of all places, from the known ones of the filled rows.

    The least that columns may have beside these, then the most that rows may have beside those: for
    filled places that is what the tree gives them, and empty ones bring nothing, whatever they have.
    """
    there = [max([known[row] - costs[row][column] for row in known]) for column in range(len(costs[0]))]
    here = [min([cost + price for cost, price in zip(line, there)]) for line in costs]
    return here, there


def first_tree(costs, lying, wanted):
    """A tree for these amounts, each of them taken some units over, and each row with one more.

    All of these the last column wants. So some rows, but not all, never hold just what some columns want,
    no amount of a tree is ever 0, each exchange makes it cheaper, and no tree comes again.
    """
    many = len(lying)
    unit = unit_for(many)
    last = max(list(wanted))
    more = {row: amount * unit + 1 for row, amount in lying.items()}
    sought = {column: amount * unit for column, amount in wanted.items()}
    sought[last] += many
    return greedy_tree(costs, more, sought)


def unit_for(many):
    """How many times over amounts are taken for so many rows: an amount is off by less than half of this."""
    return 2 * many + 1


def rounded(tree):
    """The amounts above 0 of a tree, as they would be without what the rows have more."""
    many = len({row for row, column in tree})
    amounts = {way: (amount + many) // unit_for(many) for way, amount in tree.items()}
    return {way: amount for way, amount in amounts.items() if amount > 0}


def greedy_tree(costs, first, second):
    """The tree that carries as much as it can by each way, the cheapest one first."""
    lying = dict(first)
    wanted = dict(second)
    tree = {}
    for cost, row, column in sorted([(costs[row][column], row, column) for row in first for column in second]):
        amount = min(lying[row], wanted[column])
        if amount > 0:
            tree[(row, column)] = amount
            lying[row] -= amount
            wanted[column] -= amount
    return tree


def hang(costs, tree):
    """A tuple (here, there, ups, downs), dicts by row and by column, the tree being hung up by one of its rows.

    here and there are the prices of rows and columns that differ, on each way of the tree, by just
    its cost; ups and downs the lists of ways from rows and from columns to the row it hangs by.
    """
    root = min([row for row, column in tree])
    here = {root: 0}
    there = {}
    ups = {root: []}
    downs = {}
    waiting = list(tree)
    while waiting:
        later = []
        for row, column in waiting:
            if row in here:
                there[column] = here[row] - costs[row][column]
                downs[column] = [(row, column)] + ups[row]
            elif column in there:
                here[row] = there[column] + costs[row][column]
                ups[row] = [(row, column)] + downs[column]
            else:
                later.append((row, column))
        waiting = later
    return here, there, ups, downs


def widest_gap(costs, hung):
    """A tuple (gap, way): the least that a way costs above its prices' difference, and the way."""
    here, there, ups, downs = hung
    return min([(costs[row][column] - here[row] + there[column], (row, column)) for row in here for column in there])


def exchange(tree, way, hung):
    """Let as much as can be go by this way instead of round the ring that it makes with the tree.

    From both of its ends the ring's ways give and take by turns, up to where they meet.
    """
    here, there, ups, downs = hung
    row, column = way
    up = ups[row]
    down = downs[column]
    shared = 0
    while shared < min(len(up), len(down)) and up[-1 - shared] == down[-1 - shared]:
        shared += 1
    up = up[:len(up) - shared]
    down = down[:len(down) - shared]
    giving = up[::2] + down[::2]
    amount, gone = min([(tree[each], each) for each in giving])
    for each in giving:
        tree[each] -= amount
    for each in up[1::2] + down[1::2]:
        tree[each] += amount
    del tree[gone]
    tree[way] = amount
