"""How far apart the rooms of two machines are, exactly, and the papers that show it."""

from farbetween.carrying import are_prices, brought, cost_of, is_plan, is_table, shares_over
from farbetween.errors import TooMany
from farbetween.fades import check_fade
from farbetween.kinds import is_whole
from farbetween.machines import heap
from farbetween.meetings import Meeting, same_menus
from farbetween.settling import settled
from farbetween.shares import Share, less, times

MOST_PAIRS = 40


def check_asked(fade, one, other):
    check_fade(fade)
    if one.many * other.many > MOST_PAIRS:
        raise TooMany(f"there are more than {MOST_PAIRS} pairs of rooms")


def apart(fade, one, other):
    """For each room of the one, the list of how far apart it is from each room of the other."""
    check_asked(fade, one, other)
    rows, bottom = settled(fade, Meeting(one, other))
    return shares_over(bottom, rows)


def distance(fade, one, other):
    """How far apart the rooms 0 of both are."""
    return apart(fade, one, other)[0][0]


def papers(fade, one, other):
    """A tuple (table, above, below): the table of apart, and a paper from above and one from below for it."""
    check_asked(fade, one, other)
    meeting = Meeting(one, other)
    rows, bottom = settled(fade, meeting)
    above = [
        (x, y, sign, shares_over(haul.grain, haul.plan(one.many, other.many)))
        for (x, y, sign), haul in meeting.hauls.items()
    ]
    return shares_over(bottom, rows), above, paper_from_below(fade, meeting, rows, bottom)


def paper_from_below(fade, meeting, rows, bottom):
    """The prices, by a sign that makes a pair as far apart as it is, for each pair that is apart at all."""
    signs = {
        (x, y): sign
        for (x, y, sign), paid in meeting.all_paid(rows).items()
        if rows[x][y] > 0 and fade.top * paid == fade.bottom * meeting.whole * rows[x][y]
    }
    told = []
    for (x, y), sign in signs.items():
        here, there = shares_over(bottom, meeting.hauls[(x, y, sign)].prices(rows))
        told.append((x, y, sign, (here, there)))
    return told


def are_paper_rows(thing):
    """Whether this, which may be anything, is a list of tuples of two numbers, a text and one thing more."""
    return isinstance(thing, list) and all([is_paper_row(row) for row in thing])


def is_paper_row(thing):
    """Whether it has numbers and a text where rooms and a sign should be: other things are not even compared."""
    if not isinstance(thing, tuple) or len(thing) != 4:
        return False
    return is_whole(thing[0]) and is_whole(thing[1]) and isinstance(thing[2], str)


def of_unlike_menus(table, menus):
    """The numbers of all pairs that have not the same menu."""
    return [number for x, row in enumerate(table) for y, number in enumerate(row) if (x, y) not in menus]


def is_above(thing, fade, one, other, table):
    """Whether this, which may be anything, is a paper from above for the others."""
    check_asked(fade, one, other)
    if not is_table(table, one.many, other.many):
        return False
    menus = same_menus(one, other)
    if any([less(number, Share(1)) for number in of_unlike_menus(table, menus)]):
        return False
    wanted = [(x, y, sign) for (x, y), signs in menus.items() for sign in signs]
    if not are_paper_rows(thing) or [row[:3] for row in thing] != wanted:
        return False
    return all([holds_from_above(row, fade, one, other, table) for row in thing])


def holds_from_above(row, fade, one, other, table):
    """Whether there is a plan in this row, and one that costs no more than the table says."""
    x, y, sign, plan = row
    if not is_plan(plan, heap(one, x, sign), heap(other, y, sign)):
        return False
    return not less(table[x][y], times(fade, cost_of(table, plan)))


def is_below(thing, fade, one, other, table):
    """Whether this, which may be anything, is a paper from below for the others."""
    check_asked(fade, one, other)
    if not is_table(table, one.many, other.many):
        return False
    menus = same_menus(one, other)
    if any([less(Share(1), number) for number in of_unlike_menus(table, menus)]):
        return False
    wanted = [(x, y) for x, y in menus if table[x][y].top > 0]
    if not are_paper_rows(thing) or [row[:2] for row in thing] != wanted:
        return False
    if not all([sign in menus[(x, y)] for x, y, sign, prices in thing]):
        return False
    return all([holds_from_below(row, fade, one, other, table) for row in thing])


def holds_from_below(row, fade, one, other, table):
    """Whether there are prices in this row, and such as bring no less than the table says."""
    x, y, sign, prices = row
    if not are_prices(prices, table):
        return False
    return not less(times(fade, brought(prices, heap(one, x, sign), heap(other, y, sign))), table[x][y])
