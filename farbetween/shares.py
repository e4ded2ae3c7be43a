"""Shares: exact fractions, and how they are reckoned with."""

from farbetween.errors import NoShare
from farbetween.figures import written
from farbetween.kinds import is_whole


class Share:
    """A fraction in lowest terms, its bottom above 0; once made it never changes."""

    def __init__(self, top, bottom=1):
        if not is_whole(top) or not is_whole(bottom) or bottom == 0:
            raise NoShare("a share is made of two whole numbers, the second of them not 0")
        common = common_part(top, bottom)
        if bottom < 0:
            common = -common
        self.top = top // common
        self.bottom = bottom // common

    def __eq__(self, other):
        return isinstance(other, Share) and self.top == other.top and self.bottom == other.bottom

    def __str__(self):
        if self.bottom == 1:
            return f"{written(self.top)}"
        return f"{written(self.top)}/{written(self.bottom)}"


def common_part(one, other):
    """The greatest whole number that divides both; 0 where both are 0."""
    while other != 0:
        one, other = other, one % other
    return abs(one)


def common_multiple(one, other):
    """The least whole number above 0 that both, which are above 0, divide."""
    return one // common_part(one, other) * other


def common_bottom(shares):
    """The least whole number above 0 over which all of these can be written."""
    bottom = 1
    for share in shares:
        bottom = common_multiple(bottom, share.bottom)
    return bottom


def tops_over(bottom, shares):
    """The tops of these when they are written over this bottom, which all of theirs divide."""
    return [share.top * (bottom // share.bottom) for share in shares]


def lowest_share(top, bottom):
    """The share of a top and a bottom above 0 that are in lowest terms already.

    Where both are long, it takes long to find out by looking for what divides them; so this isn't looked for.
    """
    share = Share(0)
    share.top = top
    share.bottom = bottom
    return share


def plus(one, other):
    return Share(one.top * other.bottom + other.top * one.bottom, one.bottom * other.bottom)


def minus(one, other):
    return Share(one.top * other.bottom - other.top * one.bottom, one.bottom * other.bottom)


def times(one, other):
    return Share(one.top * other.top, one.bottom * other.bottom)


def over(one, other):
    """The one divided by the other; the share 0 is refused as any bottom 0 is."""
    return Share(one.top * other.bottom, one.bottom * other.top)


def less(one, other):
    return one.top * other.bottom < other.top * one.bottom


def sum_of(shares):
    """All of these added up; over a common bottom, so that only the sum need be put in lowest terms."""
    bottom = common_bottom(shares)
    return Share(sum(tops_over(bottom, shares)), bottom)
