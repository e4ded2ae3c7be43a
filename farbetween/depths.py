"""How far apart the rooms of two machines are, to a depth."""

from farbetween.carrying import shares_over
from farbetween.fades import check_depth, check_fade
from farbetween.meetings import Meeting

DEEPEST = 12


def apart_to(fade, one, other, depth):
    """For each room of the one, the list of how far apart it is, to this depth, from each room of the other."""
    check_fade(fade)
    check_depth(depth, DEEPEST)
    rows, bottom = tables_to(fade, one, other, depth)[depth]
    return shares_over(bottom, rows)


def tables_to(fade, one, other, depth):
    """For each depth from 0 to this one a tuple (rows, bottom): the table, tops over a bottom."""
    tables = [([[0 for y in range(other.many)] for x in range(one.many)], 1)]
    if depth == 0:
        return tables
    meeting = Meeting(one, other)
    tables.append((meeting.unlike, 1))
    for turn in range(depth - 1):
        rows, bottom = tables[-1]
        tables.append(deeper(fade, meeting, rows, bottom))
    return tables


def deeper(fade, meeting, rows, bottom):
    """A tuple (rows, bottom): the table, tops over a bottom, to one depth more than this one."""
    meeting.cheapen_all(rows)
    wide = fade.bottom * bottom * meeting.whole
    found = [[number * wide for number in row] for row in meeting.unlike]
    for (x, y, sign), paid in meeting.all_paid(rows).items():
        found[x][y] = max(found[x][y], fade.top * paid)
    return found, wide
