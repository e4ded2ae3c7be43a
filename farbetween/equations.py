"""As many equations as numbers sought, in whole numbers."""

from farbetween.shares import common_part


def solved(lines):
    """A tuple (tops, bottom): the numbers sought, written over one bottom, in lowest terms.

    Each line has the factors of all numbers sought, and at its end what they come to. In each the factor
    of the number of its own place is above 0 and more than all its others together: so no line must be moved.
    """
    rows = eliminated(lines)
    bottom = rows[-1][0] if rows else 1
    tops = []
    for row in reversed(rows):
        known = sum([factor * top for factor, top in zip(row[1:-1], tops)])
        tops = [(row[-1] * bottom - known) // row[0]] + tops
    common = bottom
    for top in tops:
        common = common_part(top, common)
    return [top // common for top in tops], bottom // common


def eliminated(lines):
    """The same equations, each from its own number on, those ahead of it being gone.

    Each time what is left is divided by the first factor of the line that was taken ahead of this one: whole
    numbers are left by that (all of them are determinants), which do not get twice as long at each line.
    """
    rows = []
    left = lines
    last = 1
    while left:
        upper, *others = left
        left = [
            [(upper[0] * one - lower[0] * other) // last for one, other in zip(lower[1:], upper[1:])]
            for lower in others
        ]
        rows.append(upper)
        last = upper[0]
    return rows
