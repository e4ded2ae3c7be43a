"""Cheapest carrying in whole numbers.

Ways are tuples (row, column). A tree is a dict from ways to amounts above 0 that
join all rows and columns without a ring. It is exchanged way by way for as long
as that makes it cheaper.
"""


def cheapest_moves(costs, first, second):
    """A tuple (moves, here, there): a cheapest plan, and prices that bring just what it costs.

    All numbers are whole; the amounts of both heaps are not below 0 and come to the same, above 0.
    """
    rows = filled(first)
    columns = filled(second)
    inner = [[costs[row][column] for column in columns] for row in rows]
    tree, prices = cheapest_tree(inner, [first[row] for row in rows], [second[column] for column in columns])
    moves = [[0 for amount in second] for other in first]
    for row, column in tree:
        moves[rows[row]][columns[column]] = tree[(row, column)]
    here, there = all_prices(costs, {row: prices[at] for at, row in enumerate(rows)})
    return moves, here, there


def filled(amounts):
    """The places at which there is something."""
    return [at for at, amount in enumerate(amounts) if amount > 0]


def all_prices(costs, known):
    """The prices of all places, from the known ones of the filled rows.

    The least that columns may have beside these, then the most that rows may have beside those: for
    filled places that is what the tree gives them, and empty ones bring nothing, whatever they have.
    """
    there = [max([known[row] - costs[row][column] for row in known]) for column in range(len(costs[0]))]
    here = [min([cost + price for cost, price in zip(line, there)]) for line in costs]
    return here, there


def cheapest_tree(costs, first, second):
    """A tuple (tree, prices): a cheapest tree and the prices of its rows; all amounts of the heaps are above 0.

    Each row gets one grain more, all of which the last column wants. So some rows, but not all, never
    hold just what some columns want, no amount of a tree is ever 0, each exchange makes it cheaper,
    and no tree comes again. An amount is off by fewer grains than half a unit, and is rounded in the end.
    """
    many = len(first)
    unit = 2 * many + 1
    wanted = [amount * unit for amount in second]
    wanted[-1] += many
    tree = greedy_tree(costs, [amount * unit + 1 for amount in first], wanted)
    hung = hang(costs, tree)
    gap, way = widest_gap(costs, hung)
    while gap < 0:
        exchange(tree, way, hung)
        hung = hang(costs, tree)
        gap, way = widest_gap(costs, hung)
    here, there, ups, downs = hung
    return {each: (tree[each] + many) // unit for each in tree}, here


def greedy_tree(costs, first, second):
    """The tree that carries as much as it can by each way, the cheapest one first."""
    lying = list(first)
    wanted = list(second)
    tree = {}
    ways = [(line[column], row, column) for row, line in enumerate(costs) for column in range(len(line))]
    for cost, row, column in sorted(ways):
        amount = min(lying[row], wanted[column])
        if amount > 0:
            tree[(row, column)] = amount
            lying[row] -= amount
            wanted[column] -= amount
    return tree


def hang(costs, tree):
    """A tuple (here, there, ups, downs), dicts by row and by column, the tree being hung up by row 0.

    here and there are the prices of rows and columns that differ, on each way of the tree, by just
    its cost; ups and downs the lists of ways from rows and from columns to row 0.
    """
    here = {0: 0}
    there = {}
    ups = {0: []}
    downs = {}
    waiting = list(tree)
    while waiting:
        later = []
        for row, column in waiting:
            if row in here:
                there[column] = here[row] - costs[row][column]
                downs[column] = [(row, column)] + ups[row]
            elif column in there:
                here[row] = there[column] + costs[row][column]
                ups[row] = [(row, column)] + downs[column]
            else:
                later.append((row, column))
        waiting = later
    return here, there, ups, downs


def widest_gap(costs, hung):
    """A tuple (gap, way): the least that a way costs above its prices' difference, and the way."""
    here, there, ups, downs = hung
    return min([
        (cost - here[row] + there[column], (row, column))
        for row, line in enumerate(costs)
        for column, cost in enumerate(line)
    ])


def exchange(tree, way, hung):
    """Let as much as can be go by this way instead of round the ring that it makes with the tree.

    From both of its ends the ring's ways give and take by turns, up to where they meet.
    """
    here, there, ups, downs = hung
    row, column = way
    up = ups[row]
    down = downs[column]
    shared = 0
    while shared < min(len(up), len(down)) and up[-1 - shared] == down[-1 - shared]:
        shared += 1
    up = up[:len(up) - shared]
    down = down[:len(down) - shared]
    giving = up[::2] + down[::2]
    amount, gone = min([(tree[each], each) for each in giving])
    for each in giving:
        tree[each] -= amount
    for each in up[1::2] + down[1::2]:
        tree[each] += amount
    del tree[gone]
    tree[way] = amount
