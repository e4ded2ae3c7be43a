"""How far apart the rooms of two machines are, to a depth."""

from farbetween.carrying import shares_over
from farbetween.fades import check_depth, check_fade
from farbetween.meetings import Meeting
from farbetween.shares import Share

DEEPEST = 12


def apart_to(fade, one, other, depth):
    """For each room of the one, the list of how far apart it is, to this depth, from each room of the other."""
    check_fade(fade)
    check_depth(depth, DEEPEST)
    if depth == 0:
        return [[Share(0) for y in range(other.many)] for x in range(one.many)]
    meeting = Meeting(one, other)
    rows, bottom = meeting.unlike, 1
    for turn in range(depth - 1):
        rows, bottom = deeper(fade, meeting, rows, bottom)
    return shares_over(bottom, rows)


def deeper(fade, meeting, rows, bottom):
    """A tuple (rows, bottom): the table, tops over a bottom, to one depth more than this one."""
    meeting.cheapen_all(rows)
    wide = fade.bottom * bottom * meeting.whole
    found = [[number * wide for number in row] for row in meeting.unlike]
    for (x, y, sign), paid in meeting.all_paid(rows).items():
        found[x][y] = max(found[x][y], fade.top * paid)
    return found, wide
